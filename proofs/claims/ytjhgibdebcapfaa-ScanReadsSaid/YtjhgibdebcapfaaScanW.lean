/- The law ScanReads: its walk. -/
import Derived.Test.YtjhgibdebcapfaaScanPG
import Derived.Test.YtjhgibdebcapfaaScanSame
import Derived.Test.YtjhgibdebcapfaaScanRefR
import Derived.Deep.DeepCutAuto
import Derived.Shelf.Vars
namespace Go.Proofs.Ytjhgibdebcapfaa
open Go.RowKit
set_option linter.unusedSimpArgs false
set_option linter.unusedVariables false

theorem close_len (s : ByteArray) (l : List Tk) : (closeT s l).toks.length ≤ 1500 := by
  unfold closeT
  simp only
  split
  · exact Nat.zero_le _
  · rename_i h; exact Nat.le_of_not_lt h
theorem scanF_len (s : ByteArray) : ∀ (f i : Nat) (l : List Tk), (scanF s f i l).toks.length ≤ 1500
  | 0, _, l => close_len s l
  | f + 1, i, l => by
    unfold scanF
    split
    · exact close_len s l
    simp only
    split
    · exact Nat.zero_le _
    split
    · exact scanF_len s f _ _
    split
    · exact Nat.zero_le _
    · exact scanF_len s f _ _
theorem scan_len (s : ByteArray) : (scanT s).toks.length ≤ 1500 := by
  unfold scanT
  split
  · exact Nat.zero_le _
  split
  · exact Nat.zero_le _
  · exact scanF_len s _ _ _
theorem MaxAt.shaped {w : World} (h : w.ShapedOpen Try.prog) : MaxAt w :=
  cell_of_shapedOpen_int (P := Try.prog) (g := 0) (t := 3) (zero := #[.int .i64 0]) h (of_decide_eq_true (by kernel_rfl)) (by kernel_rfl) rfl (by kernel_rfl) (by kernel_rfl) Try.underlying3
def line1 : ByteArray := ⟨#[120, 32, 58, 61, 32, 49, 10]⟩
theorem scan_line1 : scanT line1 = ⟨[⟨1, ⟨#[120]⟩, 0⟩, ⟨6, ⟨#[58, 61]⟩, 2⟩, ⟨2, ⟨#[49]⟩, 5⟩, ⟨6, ⟨#[10]⟩, 6⟩, ⟨0, ⟨#[]⟩, 7⟩], 0, 0⟩ := by decide +kernel
theorem key_func : keyB ⟨#[102, 117, 110, 99]⟩ = true := by decide +kernel
theorem op_dots : opB ⟨#[46, 46, 46]⟩ = true := by decide +kernel
set_option maxHeartbeats 4000000 in
set_option maxRecDepth 100000 in
theorem alive_any (w : World) (hM : MaxAt w) :
    Calls Try.prog 6 #[] w fun e w' => e = .returned (.bool true) ∧ Below w.heap.size w w' := by
  have H1 := pscan_any line1 w hM
  rw [scan_line1] at H1
  unfold PRes line1 at H1
  simp only at H1
  have HS := Lib.hid H1
  have HK0 := fun w' => key_any ⟨#[102, 117, 110, 99]⟩ w'
  rw [key_func] at HK0
  have HK := Lib.hid HK0
  have HO0 := fun w' => op_any ⟨#[46, 46, 46]⟩ w'
  rw [op_dots] at HO0
  have HO := Lib.hid HO0
  clear H1 HK0 HO0 hM
  go_enter Try.func6, Try.ntmps6
  go_wp2_with fail
  refine HS.out.mono ?_
  rintro x w1 ⟨v, rfl, ho, hb⟩
  obtain ⟨ao, cap, rfl, hr⟩ := own_row ho
  obtain ⟨b, off, rfl, hlt, hc⟩ := hr.cells (by decide)
  have c1 := (hc 1 (by decide)).2.1
  have c3 := (hc 3 (by decide)).2.1
  clear hc hr ho HS
  have hl : ([⟨1, ⟨#[120]⟩, 0⟩, ⟨6, ⟨#[58, 61]⟩, 2⟩, ⟨2, ⟨#[49]⟩, 5⟩, ⟨6, ⟨#[10]⟩, 6⟩, ⟨0, ⟨#[]⟩, 7⟩] : List Tk).length = 5 := rfl
  rw [hl]
  clear hl
  simp only [List.getElem_cons_succ, List.getElem_cons_zero] at c1 c3
  have HB := Lib.hid hb
  clear hb
  have BQ := Lib.hid (fun n => (show Below w1.heap.size w1 (w1.drewN n) from ⟨rfl, rfl, rfl, Nat.le_refl _, fun _ _ => rfl⟩))
  go_wp2_with fail
  refine (HK.out _).mono ?_
  rintro x w' ⟨rfl, rfl⟩
  go_wp2_with fail
  refine (HO.out _).mono ?_
  rintro x w' ⟨rfl, rfl⟩
  go_wp2_with fail
  go_ret
  exact ⟨rfl, HB.out⟩
set_option maxHeartbeats 16000000 in
set_option maxRecDepth 100000 in
theorem reads_walk (s0 d0 : ByteArray) (w : World) (hs : s0.size ≤ 9223372036854775807) (hd : d0.size ≤ 9223372036854775807) (hM : MaxAt w) :
    Calls Try.prog 3 #[.string s0, .string d0] w fun e w' => e = .returned (.bool true) ∧ Below w.heap.size w w' := by
  have hMl : 0 < w.heap.size := max_lt hM
  have HMx : ∀ w', Below w.heap.size w w' → MaxAt w' := fun w' hb => hM.below hb
  have HMM := Lib.hid HMx
  clear HMx hM hMl
  go_enter Try.func3, Try.ntmps3
  go_upto_region 1 with fail
  go_cut [0, 1] (fun v0 v1 wx => ∃ s t : ByteArray, v0 = .string s ∧ v1 = .string t ∧ s.size ≤ 4010 ∧ t.size ≤ 20 ∧ Below w.heap.size w wx)
  case first =>
    go_quiet (fail)
    all_goals go_wp2_with fail
    all_goals go_meet
    all_goals exact ⟨_, _, rfl, rfl, by first | omega | (simp; try omega), by first | omega | (simp; try omega), below_drewN (Below.refl _ _) _⟩
  case rest =>
    obtain ⟨s, t, rfl, rfl, hs1, ht1, hb⟩ := hcut
    clear hs hd
    have HP := Lib.hid (pscan_any s _ (HMM.out _ hb))
    have B0 := Lib.hid hb
    clear hb
    go_wp2_with fail
    refine HP.out.mono ?_
    rintro x w1 ⟨v, rfl, ho, hb⟩
    obtain ⟨ao, cap, rfl, hr⟩ := own_row ho
    have HR1 := Lib.hid hr
    have B1 := Lib.hid (B0.out.trans (hb.mono B0.out.size))
    clear ho hr hb HP B0
    have HQ := Lib.hid (refscan_any s w1 (by omega))
    go_wp2_with fail
    refine HQ.out.mono ?_
    rintro x w2 ⟨v, rfl, ho, hb⟩
    obtain ⟨bo, bcap, rfl, hr⟩ := own_row ho
    have HR2 := Lib.hid hr
    have HR1b := Lib.hid (HR1.out.below hb)
    have B2 := Lib.hid (B1.out.trans (hb.mono B1.out.size))
    clear ho hr hb HQ B1 HR1
    obtain ⟨⟨tk, ps, er⟩, hT⟩ : ∃ r, scanT s = r := ⟨_, rfl⟩
    have hlen := scan_len s
    rw [hT] at HR1b HR2 hlen ⊢
    clear hT
    simp only at HR1b HR2 hlen ⊢
    obtain ⟨w3, hw3⟩ : ∃ x, w2.alloc (.cells #[.slice bo tk.length bcap, .int .i64 ps, .int .i64 er] 27) = x := ⟨_, rfl⟩
    obtain ⟨k3, q3, z3⟩ := box_new hw3
    have K3 := Lib.hid k3
    have HR2c := Lib.hid (HR2.out.below q3)
    have HR1c := Lib.hid (HR1b.out.below q3)
    have B3 := Lib.hid (B2.out.trans (q3.mono B2.out.size))
    clear k3 q3 z3 HR2 HR1b B2
    go_wp2_with fail
    clear hw3
    refine (alive_any _ (HMM.out _ B3.out)).mono ?_
    rintro x w4 ⟨rfl, hb⟩
    have K4 := Lib.hid (K3.out.below hb)
    have HR2d := Lib.hid (HR2c.out.below hb)
    have HR1d := Lib.hid (HR1c.out.below hb)
    have B4 := Lib.hid (B3.out.trans (hb.mono B3.out.size))
    clear hb K3 HR2c HR1c B3
    obtain ⟨c0, c1, c2⟩ := cell3 K4.out
    have HSM := Lib.hid (refsame_eq ao bo cap bcap tk w4 HR1d.out HR2d.out (by omega))
    clear HR1d HR2d
    go_wp2_with fail
    refine HSM.out.mono ?_
    rintro x w5 ⟨rfl, hb⟩
    have B5 := Lib.hid (B4.out.trans (hb.mono B4.out.size))
    clear hb HSM B4 K4 c0 c1 c2
    obtain ⟨kb, hkb⟩ : ∃ b, keyB t = b := ⟨_, rfl⟩
    obtain ⟨ob, hob⟩ : ∃ b, opB t = b := ⟨_, rfl⟩
    have HK1 := fun w' => key_any t w'
    have HK2 := fun w' => refkey_any t w'
    have HO1 := fun w' => op_any t w'
    have HO2 := fun w' => refop_any t w'
    rw [hkb] at HK1 HK2
    rw [hob] at HO1 HO2
    have GK1 := Lib.hid HK1
    have GK2 := Lib.hid HK2
    have GO1 := Lib.hid HO1
    have GO2 := Lib.hid HO2
    have gk : (kb == kb) = true := by cases kb <;> rfl
    have go : (ob == ob) = true := by cases ob <;> rfl
    clear HK1 HK2 HO1 HO2 hkb hob
    go_wp2_with fail
    refine (GK1.out _).mono ?_
    rintro x w' ⟨rfl, rfl⟩
    go_wp2_with fail
    refine (GK2.out _).mono ?_
    rintro x w6 ⟨rfl, hb⟩
    have B6 := Lib.hid (B5.out.trans (hb.mono B5.out.size))
    clear hb
    go_wp2_with fail
    refine (GO1.out _).mono ?_
    rintro x w' ⟨rfl, rfl⟩
    go_wp2_with fail
    refine (GO2.out _).mono ?_
    rintro x w7 ⟨rfl, hb⟩
    have B7 := Lib.hid (B6.out.trans (hb.mono B6.out.size))
    clear hb
    go_wp2_with fail
    go_ret
    exact ⟨rfl, B7.out⟩
end Go.Proofs.Ytjhgibdebcapfaa
