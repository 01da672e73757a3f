/- The law LitTexts: its walk. -/
import Derived.Test.YtkafkcmhekgheaaGreatDoorLitAB
import Derived.Test.YtkafkcmhekgheaaGreatDoorLitRC
namespace Go.Proofs.YtkafkcmhekgheaaGreatDoor
open Go.RowKit
set_option linter.unusedSimpArgs false
set_option linter.unusedVariables false

set_option maxHeartbeats 16000000 in
set_option maxRecDepth 100000 in
theorem texts_bad (s : ByteArray) (u : ByteArray) (q : Nat) (w : World) (hs : s.size ≤ 9223372036854775807) (hq1 : q ≤ s.size) (hq2 : q ≤ 4010) (hmin : min s.size 4010 = q) (hu : s.extract 0 q = u) (hE : Env w) (hbad : badE u ≠ 0) :
    Calls Tryz.prog 3 #[.string s] w fun e w' => e = .returned (.bool true) ∧ Below w.heap.size w w' := by
  have hus : u.size ≤ 4010 := by rw [← hu, size_ext _ _ _ hq1]; omega
  have HUS := Lib.hid hus
  have HEB := Lib.hid (fun w' (hb : Below w.heap.size w w') => hE.below hb)
  have Hq : ∀ (ts : Array TypeId) (t : TypeId) (W : World), (Builtin.min_ ts t #[.int .i64 (s.size : Int), .int .i64 4010]).run Tryz.prog W = .ok (.int .i64 (q : Int)) W := fun ts t W => by rw [run_min_int2, show (if (4010 : Int) < (s.size : Int) then (4010 : Int) else (s.size : Int)) = (q : Int) by split <;> omega]
  have HR0 := fun w (h : Env w) => prune_any u w hus h.tabs
  have HT0 := fun w (h : Env w) => ptext_any u w hus h.tabs h.max
  have HB0 := fun w => rbad_any u w hus
  have HA := Lib.hid (fun w (h : Env w) => alive_any w h)
  rw [show runeV u = .tuple #[.int .i32 0, .int .i64 (badE u)] by unfold runeV; rw [if_neg hbad]] at HR0
  rw [show textV u = .tuple #[.string ⟨#[]⟩, .int .i64 (badE u)] by unfold textV; rw [if_neg hbad]] at HT0
  obtain ⟨b, hb⟩ : ∃ b, badE u = b := ⟨_, rfl⟩
  rw [hb] at HR0 HT0 HB0 hbad
  have hb1 : (b != 0) = true := by rw [bne_iff_ne]; exact hbad
  have HR := Lib.hid HR0
  have HT := Lib.hid HT0
  have HB := Lib.hid HB0
  clear HR0 HT0 HB0 hb hbad
  have HU := Lib.hid hu
  clear hE hmin hus hu
  have BW := Lib.hid (Below.refl w.heap.size w)
  go_enter Tryz.func3, Tryz.ntmps3
  go_wp2_with fail
  rw [HU.out]
  clear HU
  refine (HR.out _ (HEB.out _ BW.out)).mono ?_
  rintro x w1 ⟨rfl, hb⟩
  have B1 := Lib.hid hb
  clear hb BW
  go_wp2_with fail
  refine (HT.out _ (HEB.out _ B1.out)).mono ?_
  rintro x w2 ⟨rfl, hb⟩
  have B2 := Lib.hid (B1.out.trans (hb.mono B1.out.size))
  clear hb B1
  go_wp2_with fail
  refine (HB.out _).mono ?_
  rintro x w' ⟨rfl, rfl⟩
  go_wp2_with fail
  refine (HA.out _ (HEB.out _ B2.out)).mono ?_
  rintro x w3 ⟨rfl, hb⟩
  have B3 := Lib.hid (B2.out.trans (hb.mono B2.out.size))
  clear hb
  go_wp2_with fail
  go_ret
  exact ⟨rfl, B3.out⟩
set_option maxHeartbeats 16000000 in
set_option maxRecDepth 100000 in
theorem texts_00 (s : ByteArray) (u : ByteArray) (q : Nat) (w : World) (hs : s.size ≤ 9223372036854775807) (hq1 : q ≤ s.size) (hq2 : q ≤ 4010) (hmin : min s.size 4010 = q) (hu : s.extract 0 q = u) (hE : Env w) (hbad : badE u = 0) (hr : runeT u = none) (ht : textT u = none) :
    Calls Tryz.prog 3 #[.string s] w fun e w' => e = .returned (.bool true) ∧ Below w.heap.size w w' := by
  have hus : u.size ≤ 4010 := by rw [← hu, size_ext _ _ _ hq1]; omega
  have HUS := Lib.hid hus
  have HEB := Lib.hid (fun w' (hb : Below w.heap.size w w') => hE.below hb)
  have Hq : ∀ (ts : Array TypeId) (t : TypeId) (W : World), (Builtin.min_ ts t #[.int .i64 (s.size : Int), .int .i64 4010]).run Tryz.prog W = .ok (.int .i64 (q : Int)) W := fun ts t W => by rw [run_min_int2, show (if (4010 : Int) < (s.size : Int) then (4010 : Int) else (s.size : Int)) = (q : Int) by split <;> omega]
  have HR0 := fun w (h : Env w) => prune_any u w hus h.tabs
  have HT0 := fun w (h : Env w) => ptext_any u w hus h.tabs h.max
  have HB0 := fun w => rbad_any u w hus
  have HA := Lib.hid (fun w (h : Env w) => alive_any w h)
  have hsp : spoil u = -1 := by
    rcases badE_cases u with ⟨h, h1⟩ | ⟨h, h1, h2⟩ | ⟨h, h1, h2⟩
    · omega
    · exact h2
    · omega
  rw [show runeV u = .tuple #[.int .i32 0, .int .i64 5] by unfold runeV; rw [if_pos hbad, hr]] at HR0
  rw [show textV u = .tuple #[.string ⟨#[]⟩, .int .i64 5] by unfold textV; rw [if_pos hbad, ptext_eq hsp, ht]; rfl] at HT0
  have HRR0 := fun w => rrune_any u w HUS.out hsp
  have HTT0 := fun w => rtext_any u w HUS.out hsp
  rw [show refRV u = .tuple #[.int .i32 0, .bool false] by unfold refRV; rw [hr]] at HRR0
  rw [show refV (textT u) = .tuple #[.string ⟨#[]⟩, .bool false] by rw [ht]; rfl] at HTT0
  rw [hbad] at HB0
  have HR := Lib.hid HR0
  have HT := Lib.hid HT0
  have HB := Lib.hid HB0
  have HRR := Lib.hid HRR0
  have HTT := Lib.hid HTT0
  clear HR0 HT0 HB0 HRR0 HTT0 hbad hsp hr ht
  have HU := Lib.hid hu
  clear hE hmin hus hu
  have BW := Lib.hid (Below.refl w.heap.size w)
  go_enter Tryz.func3, Tryz.ntmps3
  go_wp2_with fail
  rw [HU.out]
  clear HU
  refine (HR.out _ (HEB.out _ BW.out)).mono ?_
  rintro x w1 ⟨rfl, hb⟩
  have B1 := Lib.hid hb
  clear hb BW
  go_wp2_with fail
  refine (HT.out _ (HEB.out _ B1.out)).mono ?_
  rintro x w2 ⟨rfl, hb⟩
  have B2 := Lib.hid (B1.out.trans (hb.mono B1.out.size))
  clear hb B1
  go_wp2_with fail
  refine (HB.out _).mono ?_
  rintro x w' ⟨rfl, rfl⟩
  go_wp2_with fail
  refine (HRR.out _).mono ?_
  rintro x w3 ⟨rfl, hb⟩
  have B3 := Lib.hid (B2.out.trans (hb.mono B2.out.size))
  clear hb
  go_wp2_with fail
  refine (HTT.out _).mono ?_
  rintro x w4 ⟨rfl, hb⟩
  have B4 := Lib.hid (B3.out.trans (hb.mono B3.out.size))
  clear hb
  go_wp2_with fail
  refine (HA.out _ (HEB.out _ B4.out)).mono ?_
  rintro x w5 ⟨rfl, hb⟩
  have B5 := Lib.hid (B4.out.trans (hb.mono B4.out.size))
  clear hb
  go_wp2_with fail
  go_ret
  exact ⟨rfl, B5.out⟩
set_option maxHeartbeats 16000000 in
set_option maxRecDepth 100000 in
theorem texts_01 (s : ByteArray) (u : ByteArray) (q : Nat) (w : World) (hs : s.size ≤ 9223372036854775807) (hq1 : q ≤ s.size) (hq2 : q ≤ 4010) (hmin : min s.size 4010 = q) (hu : s.extract 0 q = u) (hE : Env w) (hbad : badE u = 0) (hr : runeT u = none) (l : List Int) (ht : textT u = some l) :
    Calls Tryz.prog 3 #[.string s] w fun e w' => e = .returned (.bool true) ∧ Below w.heap.size w w' := by
  have hus : u.size ≤ 4010 := by rw [← hu, size_ext _ _ _ hq1]; omega
  have HUS := Lib.hid hus
  have HEB := Lib.hid (fun w' (hb : Below w.heap.size w w') => hE.below hb)
  have Hq : ∀ (ts : Array TypeId) (t : TypeId) (W : World), (Builtin.min_ ts t #[.int .i64 (s.size : Int), .int .i64 4010]).run Tryz.prog W = .ok (.int .i64 (q : Int)) W := fun ts t W => by rw [run_min_int2, show (if (4010 : Int) < (s.size : Int) then (4010 : Int) else (s.size : Int)) = (q : Int) by split <;> omega]
  have HR0 := fun w (h : Env w) => prune_any u w hus h.tabs
  have HT0 := fun w (h : Env w) => ptext_any u w hus h.tabs h.max
  have HB0 := fun w => rbad_any u w hus
  have HA := Lib.hid (fun w (h : Env w) => alive_any w h)
  have hsp : spoil u = -1 := by
    rcases badE_cases u with ⟨h, h1⟩ | ⟨h, h1, h2⟩ | ⟨h, h1, h2⟩
    · omega
    · exact h2
    · omega
  rw [show runeV u = .tuple #[.int .i32 0, .int .i64 5] by unfold runeV; rw [if_pos hbad, hr]] at HR0
  rw [show textV u = .tuple #[.string (strOfNums l), .int .i64 0] by unfold textV; rw [if_pos hbad, ptext_eq hsp, ht]; rfl] at HT0
  have HRR0 := fun w => rrune_any u w HUS.out hsp
  have HTT0 := fun w => rtext_any u w HUS.out hsp
  rw [show refRV u = .tuple #[.int .i32 0, .bool false] by unfold refRV; rw [hr]] at HRR0
  rw [show refV (textT u) = .tuple #[.string (strOfNums l), .bool true] by rw [ht]; rfl] at HTT0
  rw [hbad] at HB0
  obtain ⟨L, hL⟩ : ∃ L, strOfNums l = L := ⟨_, rfl⟩
  rw [hL] at HT0 HTT0
  have hLL : (L.toList == L.toList) = true := by exact beq_self_eq_true _
  have HR := Lib.hid HR0
  have HT := Lib.hid HT0
  have HB := Lib.hid HB0
  have HRR := Lib.hid HRR0
  have HTT := Lib.hid HTT0
  clear HR0 HT0 HB0 HRR0 HTT0 hbad hsp hr ht hL
  have HU := Lib.hid hu
  clear hE hmin hus hu
  have BW := Lib.hid (Below.refl w.heap.size w)
  go_enter Tryz.func3, Tryz.ntmps3
  go_wp2_with fail
  rw [HU.out]
  clear HU
  refine (HR.out _ (HEB.out _ BW.out)).mono ?_
  rintro x w1 ⟨rfl, hb⟩
  have B1 := Lib.hid hb
  clear hb BW
  go_wp2_with fail
  refine (HT.out _ (HEB.out _ B1.out)).mono ?_
  rintro x w2 ⟨rfl, hb⟩
  have B2 := Lib.hid (B1.out.trans (hb.mono B1.out.size))
  clear hb B1
  go_wp2_with fail
  refine (HB.out _).mono ?_
  rintro x w' ⟨rfl, rfl⟩
  go_wp2_with fail
  refine (HRR.out _).mono ?_
  rintro x w3 ⟨rfl, hb⟩
  have B3 := Lib.hid (B2.out.trans (hb.mono B2.out.size))
  clear hb
  go_wp2_with fail
  refine (HTT.out _).mono ?_
  rintro x w4 ⟨rfl, hb⟩
  have B4 := Lib.hid (B3.out.trans (hb.mono B3.out.size))
  clear hb
  go_wp2_with fail
  refine (HA.out _ (HEB.out _ B4.out)).mono ?_
  rintro x w5 ⟨rfl, hb⟩
  have B5 := Lib.hid (B4.out.trans (hb.mono B4.out.size))
  clear hb
  go_wp2_with fail
  go_ret
  exact ⟨rfl, B5.out⟩
set_option maxHeartbeats 16000000 in
set_option maxRecDepth 100000 in
theorem texts_10 (s : ByteArray) (u : ByteArray) (q : Nat) (w : World) (hs : s.size ≤ 9223372036854775807) (hq1 : q ≤ s.size) (hq2 : q ≤ 4010) (hmin : min s.size 4010 = q) (hu : s.extract 0 q = u) (hE : Env w) (hbad : badE u = 0) (v : Int) (hr : runeT u = some v) (ht : textT u = none) :
    Calls Tryz.prog 3 #[.string s] w fun e w' => e = .returned (.bool true) ∧ Below w.heap.size w w' := by
  have hus : u.size ≤ 4010 := by rw [← hu, size_ext _ _ _ hq1]; omega
  have HUS := Lib.hid hus
  have HEB := Lib.hid (fun w' (hb : Below w.heap.size w w') => hE.below hb)
  have Hq : ∀ (ts : Array TypeId) (t : TypeId) (W : World), (Builtin.min_ ts t #[.int .i64 (s.size : Int), .int .i64 4010]).run Tryz.prog W = .ok (.int .i64 (q : Int)) W := fun ts t W => by rw [run_min_int2, show (if (4010 : Int) < (s.size : Int) then (4010 : Int) else (s.size : Int)) = (q : Int) by split <;> omega]
  have HR0 := fun w (h : Env w) => prune_any u w hus h.tabs
  have HT0 := fun w (h : Env w) => ptext_any u w hus h.tabs h.max
  have HB0 := fun w => rbad_any u w hus
  have HA := Lib.hid (fun w (h : Env w) => alive_any w h)
  have hsp : spoil u = -1 := by
    rcases badE_cases u with ⟨h, h1⟩ | ⟨h, h1, h2⟩ | ⟨h, h1, h2⟩
    · omega
    · exact h2
    · omega
  rw [show runeV u = .tuple #[.int .i32 v, .int .i64 0] by unfold runeV; rw [if_pos hbad, hr]] at HR0
  rw [show textV u = .tuple #[.string ⟨#[]⟩, .int .i64 5] by unfold textV; rw [if_pos hbad, ptext_eq hsp, ht]; rfl] at HT0
  have HRR0 := fun w => rrune_any u w HUS.out hsp
  have HTT0 := fun w => rtext_any u w HUS.out hsp
  rw [show refRV u = .tuple #[.int .i32 v, .bool true] by unfold refRV; rw [hr]] at HRR0
  rw [show refV (textT u) = .tuple #[.string ⟨#[]⟩, .bool false] by rw [ht]; rfl] at HTT0
  rw [hbad] at HB0
  have hvv : (v != v) = false := by rw [bne_self_eq_false]
  have HR := Lib.hid HR0
  have HT := Lib.hid HT0
  have HB := Lib.hid HB0
  have HRR := Lib.hid HRR0
  have HTT := Lib.hid HTT0
  clear HR0 HT0 HB0 HRR0 HTT0 hbad hsp hr ht
  have HU := Lib.hid hu
  clear hE hmin hus hu
  have BW := Lib.hid (Below.refl w.heap.size w)
  go_enter Tryz.func3, Tryz.ntmps3
  go_wp2_with fail
  rw [HU.out]
  clear HU
  refine (HR.out _ (HEB.out _ BW.out)).mono ?_
  rintro x w1 ⟨rfl, hb⟩
  have B1 := Lib.hid hb
  clear hb BW
  go_wp2_with fail
  refine (HT.out _ (HEB.out _ B1.out)).mono ?_
  rintro x w2 ⟨rfl, hb⟩
  have B2 := Lib.hid (B1.out.trans (hb.mono B1.out.size))
  clear hb B1
  go_wp2_with fail
  refine (HB.out _).mono ?_
  rintro x w' ⟨rfl, rfl⟩
  go_wp2_with fail
  refine (HRR.out _).mono ?_
  rintro x w3 ⟨rfl, hb⟩
  have B3 := Lib.hid (B2.out.trans (hb.mono B2.out.size))
  clear hb
  go_wp2_with fail
  refine (HTT.out _).mono ?_
  rintro x w4 ⟨rfl, hb⟩
  have B4 := Lib.hid (B3.out.trans (hb.mono B3.out.size))
  clear hb
  go_wp2_with fail
  refine (HA.out _ (HEB.out _ B4.out)).mono ?_
  rintro x w5 ⟨rfl, hb⟩
  have B5 := Lib.hid (B4.out.trans (hb.mono B4.out.size))
  clear hb
  go_wp2_with fail
  go_ret
  exact ⟨rfl, B5.out⟩
set_option maxHeartbeats 16000000 in
set_option maxRecDepth 100000 in
theorem texts_11 (s : ByteArray) (u : ByteArray) (q : Nat) (w : World) (hs : s.size ≤ 9223372036854775807) (hq1 : q ≤ s.size) (hq2 : q ≤ 4010) (hmin : min s.size 4010 = q) (hu : s.extract 0 q = u) (hE : Env w) (hbad : badE u = 0) (v : Int) (hr : runeT u = some v) (l : List Int) (ht : textT u = some l) :
    Calls Tryz.prog 3 #[.string s] w fun e w' => e = .returned (.bool true) ∧ Below w.heap.size w w' := by
  have hus : u.size ≤ 4010 := by rw [← hu, size_ext _ _ _ hq1]; omega
  have HUS := Lib.hid hus
  have HEB := Lib.hid (fun w' (hb : Below w.heap.size w w') => hE.below hb)
  have Hq : ∀ (ts : Array TypeId) (t : TypeId) (W : World), (Builtin.min_ ts t #[.int .i64 (s.size : Int), .int .i64 4010]).run Tryz.prog W = .ok (.int .i64 (q : Int)) W := fun ts t W => by rw [run_min_int2, show (if (4010 : Int) < (s.size : Int) then (4010 : Int) else (s.size : Int)) = (q : Int) by split <;> omega]
  have HR0 := fun w (h : Env w) => prune_any u w hus h.tabs
  have HT0 := fun w (h : Env w) => ptext_any u w hus h.tabs h.max
  have HB0 := fun w => rbad_any u w hus
  have HA := Lib.hid (fun w (h : Env w) => alive_any w h)
  have hsp : spoil u = -1 := by
    rcases badE_cases u with ⟨h, h1⟩ | ⟨h, h1, h2⟩ | ⟨h, h1, h2⟩
    · omega
    · exact h2
    · omega
  rw [show runeV u = .tuple #[.int .i32 v, .int .i64 0] by unfold runeV; rw [if_pos hbad, hr]] at HR0
  rw [show textV u = .tuple #[.string (strOfNums l), .int .i64 0] by unfold textV; rw [if_pos hbad, ptext_eq hsp, ht]; rfl] at HT0
  have HRR0 := fun w => rrune_any u w HUS.out hsp
  have HTT0 := fun w => rtext_any u w HUS.out hsp
  rw [show refRV u = .tuple #[.int .i32 v, .bool true] by unfold refRV; rw [hr]] at HRR0
  rw [show refV (textT u) = .tuple #[.string (strOfNums l), .bool true] by rw [ht]; rfl] at HTT0
  rw [hbad] at HB0
  obtain ⟨L, hL⟩ : ∃ L, strOfNums l = L := ⟨_, rfl⟩
  rw [hL] at HT0 HTT0
  have hLL : (L.toList == L.toList) = true := by exact beq_self_eq_true _
  have hvv : (v != v) = false := by rw [bne_self_eq_false]
  have HR := Lib.hid HR0
  have HT := Lib.hid HT0
  have HB := Lib.hid HB0
  have HRR := Lib.hid HRR0
  have HTT := Lib.hid HTT0
  clear HR0 HT0 HB0 HRR0 HTT0 hbad hsp hr ht hL
  have HU := Lib.hid hu
  clear hE hmin hus hu
  have BW := Lib.hid (Below.refl w.heap.size w)
  go_enter Tryz.func3, Tryz.ntmps3
  go_wp2_with fail
  rw [HU.out]
  clear HU
  refine (HR.out _ (HEB.out _ BW.out)).mono ?_
  rintro x w1 ⟨rfl, hb⟩
  have B1 := Lib.hid hb
  clear hb BW
  go_wp2_with fail
  refine (HT.out _ (HEB.out _ B1.out)).mono ?_
  rintro x w2 ⟨rfl, hb⟩
  have B2 := Lib.hid (B1.out.trans (hb.mono B1.out.size))
  clear hb B1
  go_wp2_with fail
  refine (HB.out _).mono ?_
  rintro x w' ⟨rfl, rfl⟩
  go_wp2_with fail
  refine (HRR.out _).mono ?_
  rintro x w3 ⟨rfl, hb⟩
  have B3 := Lib.hid (B2.out.trans (hb.mono B2.out.size))
  clear hb
  go_wp2_with fail
  refine (HTT.out _).mono ?_
  rintro x w4 ⟨rfl, hb⟩
  have B4 := Lib.hid (B3.out.trans (hb.mono B3.out.size))
  clear hb
  go_wp2_with fail
  refine (HA.out _ (HEB.out _ B4.out)).mono ?_
  rintro x w5 ⟨rfl, hb⟩
  have B5 := Lib.hid (B4.out.trans (hb.mono B4.out.size))
  clear hb
  go_wp2_with fail
  go_ret
  exact ⟨rfl, B5.out⟩
theorem texts_walk (s : ByteArray) (w : World) (hs : s.size ≤ 9223372036854775807) (hE : Env w) :
    Calls Tryz.prog 3 #[.string s] w fun e w' => e = .returned (.bool true) ∧ Below w.heap.size w w' := by
  obtain ⟨q, hq⟩ : ∃ q : Nat, min s.size 4010 = q := ⟨_, rfl⟩
  obtain ⟨u, hu⟩ : ∃ u, s.extract 0 q = u := ⟨_, rfl⟩
  have q1 : q ≤ s.size := by omega
  have q2 : q ≤ 4010 := by omega
  by_cases hb : badE u = 0
  rotate_left
  · exact texts_bad s u q w hs q1 q2 hq hu hE hb
  cases hr : runeT u with
  | none =>
    cases ht : textT u with
    | none => exact texts_00 s u q w hs q1 q2 hq hu hE hb hr ht
    | some l => exact texts_01 s u q w hs q1 q2 hq hu hE hb hr l ht
  | some v =>
    cases ht : textT u with
    | none => exact texts_10 s u q w hs q1 q2 hq hu hE hb v hr ht
    | some l => exact texts_11 s u q w hs q1 q2 hq hu hE hb v hr l ht
end Go.Proofs.YtkafkcmhekgheaaGreatDoor
