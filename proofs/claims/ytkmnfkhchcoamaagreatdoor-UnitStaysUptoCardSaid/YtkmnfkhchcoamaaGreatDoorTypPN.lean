import Derived.Test.YtkmnfkhchcoamaaGreatDoorTypPM
import Derived.Test.YtkmnfkhchcoamaaGreatDoorTypMadeM
/- The program's structure: IndexFunc and ContainsFunc at its closures. -/
namespace Go.Proofs.YtkmnfkhchcoamaaGreatDoor
open Go.RowKit
set_option linter.unusedSimpArgs false
set_option linter.unusedVariables false

/-- Where the first word that p holds of stands. -/
def firstT (p : ByteArray → Bool) (ws : List ByteArray) : Int := match ws.findIdx? p with
  | none => -1
  | some i => (i : Int)
theorem firstT_some {p : ByteArray → Bool} {ws : List ByteArray} {k : Nat} (hk : k < ws.length) (h : p (ws.getD k ⟨#[]⟩) = true) (hno : ∀ j, j < k → p (ws.getD j ⟨#[]⟩) = false) : firstT p ws = (k : Int) := by
  unfold firstT
  have : ws.findIdx? p = some k := by
    rw [List.findIdx?_eq_some_iff_getElem]
    refine ⟨hk, by rw [getD_of hk] at h; exact h, fun j hj => ?_⟩
    have := hno j hj
    rw [getD_of (by omega)] at this
    rw [this]; decide
  rw [this]
theorem firstT_none {p : ByteArray → Bool} {ws : List ByteArray} (hno : ∀ j, j < ws.length → p (ws.getD j ⟨#[]⟩) = false) : firstT p ws = -1 := by
  unfold firstT
  have : ws.findIdx? p = none := by
    rw [List.findIdx?_eq_none_iff]
    intro x hx
    obtain ⟨j, hj, rfl⟩ := List.getElem_of_mem hx
    have := hno j hj
    rwa [getD_of hj] at this
  rw [this]
set_option maxHeartbeats 4000000 in
set_option maxRecDepth 100000 in
theorem indexMark_any (ao : Option Addr) (cap : Nat) (ws : List ByteArray)  (w : World) (hr : SRow w ao ws) (hl : ws.length ≤ 1000) :
    Calls Tryz.prog 99 #[.slice ao ws.length cap, .func (.func 100) #[] #[]] w fun e w' => e = .returned (.int .i64 (firstT (markB) ws)) ∧ w = w' := by
  obtain ⟨r, hrr⟩ : ∃ r, firstT (markB) ws = r := ⟨_, rfl⟩
  rw [hrr]
  have HR := Lib.hid hrr
  obtain ⟨n, hn⟩ : ∃ n, ws.length = n := ⟨_, rfl⟩
  have HN := Lib.hid hn
  have HW := Lib.hid hr
  rw [hn] at hl ⊢
  clear hrr hn hr
  go_enter Tryz.func99, Tryz.ntmps99
  go_wp2_with fail
  go_loopw [8] (fun i wr => ∃ k : Nat, k ≤ n ∧ i = .int .i64 k ∧ Hid (∀ j, j < k → (markB) (ws.getD j ⟨#[]⟩) = false) ∧ wr = w) (fun i _ => n - (intOf i).toNat)
  case atStart => exact ⟨0, Nat.zero_le _, rfl, Lib.hid (fun j hj => absurd hj (Nat.not_lt_zero _)), rfl⟩
  case round =>
    obtain ⟨k, hk, rfl, Hno, rfl⟩ := hrel
    by_cases hkn : k < n
    · obtain ⟨b, o, rfl, hb, hc⟩ := HW.out.cells (by rw [HN.out]; omega)
      have cx := hc k (by rw [HN.out]; exact hkn)
      obtain ⟨u, hu⟩ : ∃ u, ws.getD k ⟨#[]⟩ = u := ⟨_, rfl⟩
      rw [hu] at cx
      have HU := Lib.hid hu
      clear hu hc hb
      have HC := Lib.hid (iface1_any u wr)
      cases hp : (markB) u
      · have Hx := Lib.hid (show ∀ j, j < k + 1 → (markB) (ws.getD j ⟨#[]⟩) = false from fun j hj => by
          rcases Nat.lt_or_eq_of_le (Nat.le_of_lt_succ hj) with h1 | h1
          · exact Hno.out j h1
          · rw [h1, HU.out]; exact hp)
        have hp' : markB u = false := hp
        rw [hp'] at HC
        clear hp hp'
        go_wp2_with fail
        refine HC.out.mono ?_
        rintro e w' ⟨rfl, rfl⟩
        go_wp2_with fail
        go_roundw
        case rel => exact ⟨k + 1, by omega, by go_num, Hx, by first | rfl | trivial⟩
        case measure => simp [intOf]; omega
      · have Hx := Lib.hid (show (k : Int) = r from by
          rw [← HR.out]
          exact (firstT_some (by rw [HN.out]; exact hkn) (by rw [HU.out]; exact hp) Hno.out).symm)
        have hp' : markB u = true := hp
        rw [hp'] at HC
        clear hp hp'
        go_wp2_with fail
        refine HC.out.mono ?_
        rintro e w' ⟨rfl, rfl⟩
        go_wp2_with fail
        go_ret
        exact ⟨ret_int Hx.out, rfl⟩
    · obtain rfl : k = n := by omega
      have Hx := Lib.hid (show (-1 : Int) = r from by
        rw [← HR.out]
        exact (firstT_none (fun j hj => Hno.out j (by rw [HN.out] at hj; exact hj))).symm)
      go_wp2_with fail
      go_ret
      exact ⟨ret_int Hx.out, rfl⟩
set_option maxHeartbeats 4000000 in
set_option maxRecDepth 100000 in
theorem indexField_any (ao : Option Addr) (cap : Nat) (ws : List ByteArray) (name : ByteArray) (nb : Nat) (w : World) (hc : w.cell? ⟨nb, 0, none⟩ = some (.string name)) (hnb : nb < w.heap.size) (hr : SRow w ao ws) (hl : ws.length ≤ 1000) :
    Calls Tryz.prog 99 #[.slice ao ws.length cap, .func (.func 98) #[] #[.pointer (some ⟨nb, 0, none⟩)]] w fun e w' => e = .returned (.int .i64 (firstT (fun x => decide (fieldT x = name)) ws)) ∧ Below w.heap.size w w' := by
  obtain ⟨r, hrr⟩ : ∃ r, firstT (fun x => decide (fieldT x = name)) ws = r := ⟨_, rfl⟩
  rw [hrr]
  have HR := Lib.hid hrr
  obtain ⟨n, hn⟩ : ∃ n, ws.length = n := ⟨_, rfl⟩
  have HN := Lib.hid hn
  have HW := Lib.hid hr
  have HNB := Lib.hid (And.intro hc hnb)
  rw [hn] at hl ⊢
  clear hrr hn hr hc hnb
  go_enter Tryz.func99, Tryz.ntmps99
  go_wp2_with fail
  go_loopw [8] (fun i wr => ∃ k : Nat, k ≤ n ∧ i = .int .i64 k ∧ Hid (∀ j, j < k → (fun x => decide (fieldT x = name)) (ws.getD j ⟨#[]⟩) = false) ∧ Hid (Below w.heap.size w wr)) (fun i _ => n - (intOf i).toNat)
  case atStart => exact ⟨0, Nat.zero_le _, rfl, Lib.hid (fun j hj => absurd hj (Nat.not_lt_zero _)), Lib.hid (Below.refl _ _)⟩
  case round =>
    obtain ⟨k, hk, rfl, Hno, HB⟩ := hrel
    by_cases hkn : k < n
    · obtain ⟨b, o, rfl, hb, hc⟩ := HW.out.cells (by rw [HN.out]; omega)
      have cx := hc k (by rw [HN.out]; exact hkn)
      obtain ⟨u, hu⟩ : ∃ u, ws.getD k ⟨#[]⟩ = u := ⟨_, rfl⟩
      rw [hu] at cx
      have HU := Lib.hid hu
      have hbl := hb
      clear hu hc hb
      have cn : wr.cell? ⟨nb, 0, none⟩ = some (.string name) := by rw [HB.out.cell (p := ⟨nb, 0, none⟩) HNB.out.2]; exact HNB.out.1
      have HC := Lib.hid (structure1_any u name nb wr cn)
      have cx : wr.cell? ⟨b, o + k, none⟩ = some (.string u) := by rw [HB.out.cell (p := ⟨b, o + k, none⟩) hbl]; exact cx
      clear cn
      cases hp : (fun x => decide (fieldT x = name)) u
      · have Hx := Lib.hid (show ∀ j, j < k + 1 → (fun x => decide (fieldT x = name)) (ws.getD j ⟨#[]⟩) = false from fun j hj => by
          rcases Nat.lt_or_eq_of_le (Nat.le_of_lt_succ hj) with h1 | h1
          · exact Hno.out j h1
          · rw [h1, HU.out]; exact hp)
        have hp' : decide (fieldT u = name) = false := hp
        rw [hp'] at HC
        clear hp hp'
        go_wp2_with fail
        refine HC.out.mono ?_
        rintro e w' ⟨rfl, nn, rfl⟩
        have B2 := Lib.hid (below_drewN HB.out nn)
        go_wp2_with fail
        go_roundw
        case rel => exact ⟨k + 1, by omega, by go_num, Hx, B2⟩
        case measure => simp [intOf]; omega
      · have Hx := Lib.hid (show (k : Int) = r from by
          rw [← HR.out]
          exact (firstT_some (by rw [HN.out]; exact hkn) (by rw [HU.out]; exact hp) Hno.out).symm)
        have hp' : decide (fieldT u = name) = true := hp
        rw [hp'] at HC
        clear hp hp'
        go_wp2_with fail
        refine HC.out.mono ?_
        rintro e w' ⟨rfl, nn, rfl⟩
        have B2 := Lib.hid (below_drewN HB.out nn)
        go_wp2_with fail
        go_ret
        exact ⟨ret_int Hx.out, B2.out⟩
    · obtain rfl : k = n := by omega
      have Hx := Lib.hid (show (-1 : Int) = r from by
        rw [← HR.out]
        exact (firstT_none (fun j hj => Hno.out j (by rw [HN.out] at hj; exact hj))).symm)
      go_wp2_with fail
      go_ret
      exact ⟨ret_int Hx.out, HB.out⟩
theorem any_first {p : ByteArray → Bool} {ws : List ByteArray} : ws.any p = decide (0 ≤ firstT p ws) := by
  unfold firstT
  cases h : ws.findIdx? p with
  | none =>
    rw [List.findIdx?_eq_none_iff] at h
    have : ws.any p = false := by
      rw [Bool.eq_false_iff]
      intro g
      rw [List.any_eq_true] at g
      obtain ⟨x, hx, g⟩ := g
      rw [h x hx] at g
      cases g
    rw [this]; rfl
  | some i =>
    rw [List.findIdx?_eq_some_iff_getElem] at h
    obtain ⟨hi, hp, -⟩ := h
    have : ws.any p = true := by
      rw [List.any_eq_true]
      exact ⟨_, List.getElem_mem hi, hp⟩
    rw [this]
    symm
    exact decide_eq_true (by show (0 : Int) ≤ (i : Int); omega)
set_option maxHeartbeats 4000000 in
theorem contains_any (ao : Option Addr) (cap : Nat) (ws : List ByteArray) (name : ByteArray) (nb : Nat) (w : World) (hc : w.cell? ⟨nb, 0, none⟩ = some (.string name)) (hnb : nb < w.heap.size) (hr : SRow w ao ws) (hl : ws.length ≤ 1000) :
    Calls Tryz.prog 97 #[.slice ao ws.length cap, .func (.func 98) #[] #[.pointer (some ⟨nb, 0, none⟩)]] w fun e w' => e = .returned (.bool (ws.any (fun x => decide (fieldT x = name)))) ∧ Below w.heap.size w w' := by
  have HI := Lib.hid (indexField_any ao cap ws name nb w hc hnb hr hl)
  rw [any_first]
  obtain ⟨z, hz⟩ : ∃ z, firstT (fun x => decide (fieldT x = name)) ws = z := ⟨_, rfl⟩
  rw [hz] at HI ⊢
  generalize ws.length = n at *
  clear hz hc hnb hr hl
  by_cases h0 : 0 ≤ z
  · rw [decide_eq_true h0]
    go_enter Tryz.func97, Tryz.ntmps97
    go_wp2_with fail
    refine HI.out.mono ?_
    rintro e w' ⟨rfl, b⟩
    have B := Lib.hid b
    clear b
    go_wp2_with fail
    go_ret
    exact ⟨by first | rfl | (exact ret_bool (decide_eq_true h0)) | simp [h0], B.out⟩
  · have h1 : z < 0 := by omega
    rw [decide_eq_false h0]
    go_enter Tryz.func97, Tryz.ntmps97
    go_wp2_with fail
    refine HI.out.mono ?_
    rintro e w' ⟨rfl, b⟩
    have B := Lib.hid b
    clear b
    go_wp2_with fail
    go_ret
    exact ⟨by first | rfl | (exact ret_bool (decide_eq_false h0)) | simp [h0], B.out⟩
set_option maxHeartbeats 16000000 in
set_option maxRecDepth 100000 in
theorem structure_any (t : Ty) (wo ko : Option Addr) (wc kc : Nat) (w : World) (ht : TyC w wo ko t) (hwc : t.words.length ≤ wc) :
    Calls Tryz.prog 80 #[tyV t wo wc ko kc] w fun e w' => e = .returned (.bool (decide (t.name.size = 0 ∧ t.n = 0 ∧ t.kids.length ≤ 16 ∧ t.words.length = t.kids.length) && fieldsB t.words)) ∧ Below w.heap.size w w' := by
  obtain ⟨r, hr⟩ : ∃ r, (decide (t.name.size = 0 ∧ t.n = 0 ∧ t.kids.length ≤ 16 ∧ t.words.length = t.kids.length) && fieldsB t.words) = r := ⟨_, rfl⟩
  rw [hr]
  have HR := Lib.hid hr
  clear hr
  unfold tyV
  obtain ⟨n, hn⟩ : ∃ n, t.words.length = n := ⟨_, rfl⟩
  obtain ⟨m, hm⟩ : ∃ m, t.kids.length = m := ⟨_, rfl⟩
  obtain ⟨c, hcn⟩ : ∃ c, t.n = c := ⟨_, rfl⟩
  obtain ⟨s, hs⟩ : ∃ s, t.name = s := ⟨_, rfl⟩
  have HN := Lib.hid hn
  have HM := Lib.hid hm
  have HCN := Lib.hid hcn
  have HS := Lib.hid hs
  have l1 := ht.ok.wl
  have l2 := ht.ok.kl
  rw [hn] at l1 hwc ⊢
  rw [hm] at l2 ⊢
  rw [hcn, hs]
  rw [hn, hm, hcn, hs] at HR
  have HT := Lib.hid ht
  clear hn hm ht hcn hs
  by_cases c0 : s.size = 0
  case neg =>
    have Hn := Lib.hid (show false = r by rw [← HR.out, decide_eq_false (fun g => c0 g.1)]; rfl)
    have he := list_ne (s := s) (by omega)
    have he2 := empty_false (s := s) (by omega)
    clear c0
    go_enter Tryz.func80, Tryz.ntmps80
    go_wp2_with fail
    go_ret
    exact ⟨ret_bool Hn.out, (Below.refl _ _).alloc (Nat.le_refl _) _⟩
  have he : s.toList = [] := by rw [ByteArray.toList_eq, eq_nil_of_size c0]
  by_cases c1 : c = 0
  case neg =>
    have Hn := Lib.hid (show false = r by rw [← HR.out, decide_eq_false (fun g => c1 g.2.1)]; rfl)
    have hq : (c != 0) = true := by rw [bne_iff_ne]; exact c1
    go_enter Tryz.func80, Tryz.ntmps80
    go_wp2_with fail
    go_ret
    exact ⟨ret_bool Hn.out, (Below.refl _ _).alloc (Nat.le_refl _) _⟩
  subst c1
  by_cases c2 : m ≤ 16
  case neg =>
    have Hn := Lib.hid (show false = r by rw [← HR.out, decide_eq_false (fun g => c2 g.2.2.1)]; rfl)
    have hq : decide (16 < m) = true := decide_eq_true (by omega)
    go_enter Tryz.func80, Tryz.ntmps80
    go_wp2_with fail
    go_ret
    exact ⟨ret_bool Hn.out, (Below.refl _ _).alloc (Nat.le_refl _) _⟩
  by_cases c3 : n = m
  case neg =>
    have Hn := Lib.hid (show false = r by rw [← HR.out, decide_eq_false (fun g => c3 g.2.2.2)]; rfl)
    have hq : ((n : Int) != (m : Int)) = true := by rw [bne_iff_ne]; omega
    have hq2 : ((n : Int) == (m : Int)) = false := by rw [beq_eq_false_iff_ne]; omega
    go_enter Tryz.func80, Tryz.ntmps80
    go_wp2_with fail
    go_ret
    exact ⟨ret_bool Hn.out, (Below.refl _ _).alloc (Nat.le_refl _) _⟩
  subst c3
  have HR2 := Lib.hid (show fieldsB t.words = r by rw [← HR.out, decide_eq_true ⟨c0, rfl, c2, rfl⟩, Bool.true_and])
  obtain ⟨w1, h1⟩ : ∃ w1, w.alloc (.cells #[.int .i64 t.kind, .string s, .int .i64 0, .slice wo n wc, .slice ko n kc] 38) = w1 := ⟨_, rfl⟩
  obtain ⟨k1, q1, z1⟩ := box_new h1
  have BW := Lib.hid q1
  have K1 := Lib.hid k1
  obtain ⟨x0, x1, x2, x3, x4⟩ := cell5 k1
  clear k1 q1 z1 HR
  go_enter Tryz.func80, Tryz.ntmps80
  go_wp2_with fail
  clear h1 x0 x1 x2 x3 x4
  go_loopw [32] (fun i wr => ∃ k : Nat, k ≤ n ∧ i = .int .i64 k ∧ Hid (∀ j, j < k → fieldB t.words j (t.words.getD j ⟨#[]⟩) = true) ∧ Hid (Below w1.heap.size w1 wr)) (fun i _ => n - (intOf i).toNat)
  case atStart => exact ⟨0, Nat.zero_le _, rfl, Lib.hid (fun j hj => absurd hj (Nat.not_lt_zero _)), Lib.hid (Below.refl _ _)⟩
  case round =>
    obtain ⟨k, hk, rfl, Hall, HB⟩ := hrel
    by_cases hkl : k < n
    · have BB := Lib.hid (BW.out.trans (HB.out.mono BW.out.size))
      have HROW := HT.out.words.below BB.out
      obtain ⟨b, o, rfl, hb, hc⟩ := HROW.cells (by rw [HN.out]; omega)
      have cx := hc k (by rw [HN.out]; exact hkl)
      have hsz := HT.out.ok.ws _ (getD_memS (show k < t.words.length by rw [HN.out]; exact hkl))
      obtain ⟨u, hu⟩ : ∃ u, t.words.getD k ⟨#[]⟩ = u := ⟨_, rfl⟩
      have HU := Lib.hid hu
      rw [hu] at cx hsz
      have HTR := Lib.hid (trim_any u wr)
      have hfs := field_size (s := u)
      obtain ⟨f, hf⟩ : ∃ f, fieldT u = f := ⟨_, rfl⟩
      rw [hf] at HTR hfs
      have HF := Lib.hid hf
      obtain ⟨wn, hwn⟩ : ∃ wn, wr.alloc (.cells #[.string f] 9) = wn := ⟨_, rfl⟩
      obtain ⟨k2, q2, z2⟩ := box_new hwn
      have BN := Lib.hid (HB.out.trans (q2.mono HB.out.size))
      have cf : wn.cell? ⟨wr.heap.size, 0, none⟩ = some (.string f) := k2.cell 0
      have HNM := Lib.hid (fun W => name_any f W (by omega))
      obtain ⟨-, -, -, x3, -⟩ := cell5 (K1.out.below BN.out)
      have TF : fieldB t.words k u = false → false = r := fun h => by
        rw [← HR2.out]
        exact (fieldsB_no (k := k) (by rw [HN.out]; exact hkl) (by rw [HU.out]; exact h)).symm
      have TT : fieldB t.words k u = true → ∀ j, j < k + 1 → fieldB t.words j (t.words.getD j ⟨#[]⟩) = true := fun h j hj => by
        rcases Nat.lt_or_eq_of_le (Nat.le_of_lt_succ hj) with h1 | h1
        · exact Hall.out j h1
        · subst h1; rw [HU.out]; exact h
      have TF := Lib.hid TF
      have TT := Lib.hid TT
      have BE := Lib.hid (BW.out.trans (BN.out.mono BW.out.size))
      have HCT := Lib.hid (show Calls Tryz.prog 97 #[.slice (some ⟨b, o, none⟩) k wc, .func (.func 98) #[] #[.pointer (some ⟨wr.heap.size, 0, none⟩)]] wn fun e w' => e = .returned (.bool ((t.words.take k).any (fun x => decide (fieldT x = f)))) ∧ Below wn.heap.size wn w' from by
        have hlk : (t.words.take k).length = k := by rw [List.length_take, HN.out]; omega
        have hrow : SRow wn (some ⟨b, o, none⟩) (t.words.take k) := by
          rcases (HT.out.words.below BE.out) with h | ⟨b', o', e1, e2, e3⟩
          · exact .inl (by rw [h]; simp)
          · refine .inr ⟨b', o', e1, e2, fun i hi => ?_⟩
            rw [List.length_take] at hi
            rw [e3 i (by omega), getD_of (show i < t.words.length by omega), getD_of (by rw [List.length_take]; exact hi), List.getElem_take]
        have := contains_any (some ⟨b, o, none⟩) wc (t.words.take k) f wr.heap.size wn cf k2.lt hrow (by omega)
        rwa [hlk] at this)
      obtain ⟨ans, hans⟩ : ∃ ans, (t.words.take k).any (fun x => decide (fieldT x = f)) = ans := ⟨_, rfl⟩
      rw [hans] at HCT
      have HANS := Lib.hid hans
      have X3' := Lib.hid (fun W (h : Below wn.heap.size wn W) => (cell5 (K1.out.below (BN.out.trans (h.mono BN.out.size)))).2.2.2.1)
      obtain ⟨-, -, -, y3, -⟩ := cell5 (K1.out.below HB.out)
      clear hu hc hb k2 q2 z2 hf hans
      cases hnb : nameB f <;> rw [hnb] at HNM <;> have NB := Lib.hid hnb <;> clear hnb
      · have Hn := Lib.hid (TF.out (fieldB_name (by rw [HF.out]; exact NB.out)))
        clear x3
        go_wp2_with fail
        refine HTR.out.mono ?_
        rintro e w' ⟨rfl, rfl⟩
        go_wp2_with fail
        refine (HNM.out _).mono ?_
        rintro e w' ⟨rfl, rfl⟩
        go_wp2_with fail
        go_ret
        exact ⟨ret_bool Hn.out, BE.out⟩
      · cases hbl : (f.toList == [95])
        · have hbl2 : (f.toList != [95]) = true := by rw [bne, hbl]; rfl
          have HBL := Lib.hid (show blankB f = false from hbl)
          cases ans
          · have Hx := Lib.hid (TT.out (fieldB_yes (by rw [HF.out]; exact NB.out) (by rw [HN.out]; omega) (fun j hj => by
              unfold clashB
              rw [HF.out, HBL.out]
              have h1 := HANS.out
              have h2 : decide (fieldT (t.words.getD j ⟨#[]⟩) = f) = false := by
                rw [Bool.eq_false_iff]
                intro h3
                have h4 : (t.words.take k).any (fun x => decide (fieldT x = f)) = true := by
                  rw [List.any_eq_true]
                  refine ⟨t.words.getD j ⟨#[]⟩, ?_, h3⟩
                  rw [getD_of (by rw [HN.out]; omega), List.mem_take_iff_getElem]
                  exact ⟨j, by rw [HN.out]; omega, rfl⟩
                rw [h1] at h4
                cases h4
              rw [ty_str_eq, h2]
              rfl)))
            go_wp2_with fail
            refine HTR.out.mono ?_
            rintro e w' ⟨rfl, rfl⟩
            go_wp2_with fail
            refine (HNM.out _).mono ?_
            rintro e w' ⟨rfl, rfl⟩
            go_wp2_with fail
            refine HCT.out.mono ?_
            rintro e w' ⟨rfl, b3⟩
            have B3 := Lib.hid (BN.out.trans (b3.mono BN.out.size))
            clear b3
            go_wp2_with fail
            go_roundw
            case rel => exact ⟨k + 1, by omega, by go_num, Hx, B3⟩
            case measure => simp [intOf]; omega
          · have Hn := Lib.hid (TF.out (by
              have h1 := HANS.out
              rw [List.any_eq_true] at h1
              obtain ⟨x, hx, h2⟩ := h1
              rw [List.mem_take_iff_getElem] at hx
              obtain ⟨j, hj, rfl⟩ := hx
              refine fieldB_clash (j := j) (by omega) (by rw [HN.out]; omega) ?_
              unfold clashB
              rw [getD_of (by omega), HF.out, HBL.out, ty_str_eq, h2]
              rfl))
            go_wp2_with fail
            refine HTR.out.mono ?_
            rintro e w' ⟨rfl, rfl⟩
            go_wp2_with fail
            refine (HNM.out _).mono ?_
            rintro e w' ⟨rfl, rfl⟩
            go_wp2_with fail
            refine HCT.out.mono ?_
            rintro e w' ⟨rfl, b3⟩
            have B3 := Lib.hid (BE.out.trans (b3.mono BE.out.size))
            clear b3
            go_wp2_with fail
            go_ret
            exact ⟨ret_bool Hn.out, B3.out⟩
        · have hbl2 : (f.toList != [95]) = false := by rw [bne, hbl]; rfl
          have HBL := Lib.hid (show blankB f = true from hbl)
          have Hx := Lib.hid (TT.out (fieldB_yes (by rw [HF.out]; exact NB.out) (by rw [HN.out]; omega) (fun j hj => by
              unfold clashB
              rw [HF.out, HBL.out]
              simp)))
          go_wp2_with fail
          refine HTR.out.mono ?_
          rintro e w' ⟨rfl, rfl⟩
          go_wp2_with fail
          refine (HNM.out _).mono ?_
          rintro e w' ⟨rfl, rfl⟩
          go_wp2_with fail
          go_roundw
          case rel => exact ⟨k + 1, by omega, by go_num, Hx, BN⟩
          case measure => simp [intOf]; omega
    · obtain rfl : k = n := by omega
      have Hn := Lib.hid (show true = r by
        rw [← HR2.out]
        exact (fieldsB_yes (fun j hj => Hall.out j (by rw [HN.out] at hj; exact hj))).symm)
      have BE := Lib.hid (BW.out.trans (HB.out.mono BW.out.size))
      go_wp2_with fail
      go_ret
      exact ⟨ret_bool Hn.out, BE.out⟩
end Go.Proofs.YtkmnfkhchcoamaaGreatDoor

