/- The law SemverReads: its walk. -/
import Derived.Test.YtbdhmelebedpiaaDoorSemRefPA
import Derived.Test.YtbdhmelebedpiaaDoorSemLike
import Derived.Test.YtbdhmelebedpiaaDoorSemAlive
import Derived.Test.YtbdhmelebedpiaaDoorSemLaws
namespace Go.Proofs.YtbdhmelebedpiaaDoor
open Go.RowKit
set_option linter.unusedSimpArgs false
set_option linter.unusedVariables false

set_option maxHeartbeats 64000000 in
set_option maxRecDepth 100000 in
theorem reads_walk (s : ByteArray) (w : World) (hs : s.size ≤ maxLen) (hV : Vars w) :
    Calls Tryd.prog 3 #[.string s] w fun e w' => e = .returned (.bool true) ∧ Below w.heap.size w w' := by
  unfold maxLen at hs
  have HG := Lib.hid hV
  obtain ⟨q, hq⟩ : ∃ q : Nat, min s.size 900 = q := ⟨_, rfl⟩
  have q1' : q ≤ s.size := by omega
  have q2' : q ≤ 900 := by omega
  have Hq : ∀ (ts : Array TypeId) (t : TypeId) (W : World), (Builtin.min_ ts t #[.int .i64 (s.size : Int), .int .i64 900]).run Tryd.prog W = .ok (.int .i64 (q : Int)) W := fun ts t W => by rw [run_min_int2, show (if (900 : Int) < (s.size : Int) then (900 : Int) else (s.size : Int)) = (q : Int) by split <;> omega]
  clear hV hq
  go_enter Tryd.func3, Tryd.ntmps3
  go_wp2_with fail
  obtain ⟨sx, hsx⟩ : ∃ sx, s.extract 0 q = sx := ⟨_, rfl⟩
  have hz : sx.size ≤ 900 := by rw [← hsx, ByteArray.size_extract]; omega
  try rw [hsx]
  clear hsx Hq q1' q2' hs
  have HP := parseV_any sx w (by omega) HG.out.max HG.out.errs
  have HR := fun w => refparse_any sx w (by omega)
  obtain ⟨X, hX⟩ : ∃ X, parseV sx = X := ⟨_, rfl⟩
  obtain ⟨E, hE⟩ : ∃ E, parseE sx = E := ⟨_, rfl⟩
  rw [hX, hE] at HP
  simp only [hX, hE] at HR
  clear hX hE
  refine HP.mono ?_
  clear HP
  rintro e y0 ⟨bb, ⟨rfl, zp, zc, zb, zd, rfl, zv, -, -⟩ | ⟨hE, rfl⟩⟩
  · unfold verV
    have bq : Below y0.heap.size y0 (y0.alloc (.cells #[.int .i64 X.ma, .int .i64 X.mi, .int .i64 X.pa, .slice zp X.pre.length zc, .slice zb X.build.length zd] 24)) := (Below.refl _ _).alloc (Nat.le_refl _) _
    have bS := bb.trans (bq.mono bb.size)
    have tN := BlockAt.new y0 #[.int .i64 X.ma, .int .i64 X.mi, .int .i64 X.pa, .slice zp X.pre.length zc, .slice zb X.build.length zd] 24
    have ZV := Lib.hid (zv.below bq)
    go_wp2_with fail
    clear bb bq zv
    generalize y0.alloc (.cells #[.int .i64 X.ma, .int .i64 X.mi, .int .i64 X.pa, .slice zp X.pre.length zc, .slice zb X.build.length zd] 24) = y1 at *
    have TN := Lib.hid tN
    have BS := Lib.hid bS
    clear tN bS
    refine (HR y1).mono ?_
    clear HR
    rintro e y2 ⟨bb, ⟨hn, -⟩ | ⟨-, tp, tc, tb, td, rfl, r1, r2⟩⟩
    · exact absurd rfl hn
    have bq : Below y2.heap.size y2 (y2.alloc (.cells #[.int .i64 X.ma, .int .i64 X.mi, .int .i64 X.pa, .slice tp X.pre.length tc, .slice tb X.build.length td, .int .i64 0] 29)) := (Below.refl _ _).alloc (Nat.le_refl _) _
    have bS := (BS.out.trans (bb.mono BS.out.size)).trans (bq.mono (BS.out.trans (bb.mono BS.out.size)).size)
    have tN := (TN.out.below bb).below bq
    have tT := BlockAt.new y2 #[.int .i64 X.ma, .int .i64 X.mi, .int .i64 X.pa, .slice tp X.pre.length tc, .slice tb X.build.length td, .int .i64 0] 29
    have ZU := ZV.out.below bb
    have Z1 := Lib.hid (ZU.below bq)
    have Z2 := Lib.hid ((show VerC y2 tp tb X from { ZU with pre := r1, build := r2 }).below bq)
    go_wp2_with fail
    clear bb bq TN BS ZU ZV r1 r2
    generalize y2.alloc (.cells #[.int .i64 X.ma, .int .i64 X.mi, .int .i64 X.pa, .slice tp X.pre.length tc, .slice tb X.build.length td, .int .i64 0] 29) = y3 at *
    have TN := Lib.hid tN
    have TW := Lib.hid tT
    have BS := Lib.hid bS
    clear tN bS tT
    refine (alive_any y3 (HG.out.below BS.out)).mono ?_
    rintro e y4 ⟨rfl, bb⟩
    have M0 := reflike_any X X zp zb tp tb zc zd tc td y4 (Z1.out.below bb) (Z2.out.below bb)
    rw [show likeVB X X = true from by unfold likeVB; simp] at M0
    unfold verV at M0
    have M := Lib.hid M0
    have bS := BS.out.trans (bb.mono BS.out.size)
    obtain ⟨n0, n1, n2, n3, n4⟩ := cell5 (TN.out.below bb)
    obtain ⟨a0, a1, a2, a3, a4, a5⟩ := cell6 (TW.out.below bb)
    clear M0 bb TN TW BS Z1 Z2
    have BS := Lib.hid bS
    clear bS
    go_wp2_with fail
    refine M.out.mono ?_
    rintro e y5 ⟨rfl, bb⟩
    have B9 := Lib.hid (BS.out.trans (bb.mono BS.out.size))
    clear bb n0 n1 n2 n3 n4 a0 a1 a2 a3 a4 a5
    go_wp2_with fail
    go_ret
    exact ⟨ret_bool (by first | rfl | decide), B9.out⟩
  · unfold relV
    have bq : Below y0.heap.size y0 (y0.alloc (.cells #[.int .i64 0, .int .i64 0, .int .i64 0, .slice none 0 0, .slice none 0 0] 24)) := (Below.refl _ _).alloc (Nat.le_refl _) _
    have bS := bb.trans (bq.mono bb.size)
    have tN := BlockAt.new y0 #[.int .i64 0, .int .i64 0, .int .i64 0, .slice none 0 0, .slice none 0 0] 24
    go_wp2_with fail
    clear bb bq
    generalize y0.alloc (.cells #[.int .i64 0, .int .i64 0, .int .i64 0, .slice none 0 0, .slice none 0 0] 24) = y1 at *
    have TN := Lib.hid tN
    have BS := Lib.hid bS
    clear tN bS
    refine (HR y1).mono ?_
    clear HR
    rintro e y2 ⟨bb, ⟨-, rfl⟩ | ⟨h0, -⟩⟩
    rotate_left
    · exact absurd h0 hE
    unfold refErr
    have hself : (E == E) = true := beq_self_eq_true _
    have bq : Below y2.heap.size y2 (y2.alloc (.cells #[.int .i64 0, .int .i64 0, .int .i64 0, .slice none 0 0, .slice none 0 0, .int .i64 E] 29)) := (Below.refl _ _).alloc (Nat.le_refl _) _
    have bS := (BS.out.trans (bb.mono BS.out.size)).trans (bq.mono (BS.out.trans (bb.mono BS.out.size)).size)
    have tN := (TN.out.below bb).below bq
    have tT := BlockAt.new y2 #[.int .i64 0, .int .i64 0, .int .i64 0, .slice none 0 0, .slice none 0 0, .int .i64 E] 29
    go_wp2_with fail
    clear bb bq TN BS
    generalize y2.alloc (.cells #[.int .i64 0, .int .i64 0, .int .i64 0, .slice none 0 0, .slice none 0 0, .int .i64 E] 29) = y3 at *
    have TN := Lib.hid tN
    have TW := Lib.hid tT
    have BS := Lib.hid bS
    clear tN bS tT
    refine (alive_any y3 (HG.out.below BS.out)).mono ?_
    rintro e y4 ⟨rfl, bb⟩
    have M0 := reflike_any ⟨0, 0, 0, [], []⟩ ⟨0, 0, 0, [], []⟩ none none none none 0 0 0 0 y4 (rel_verC y4 0 0 0 (by omega) (by omega) (by omega)) (rel_verC y4 0 0 0 (by omega) (by omega) (by omega))
    rw [show likeVB ⟨0, 0, 0, [], []⟩ ⟨0, 0, 0, [], []⟩ = true from by unfold likeVB; simp] at M0
    unfold verV at M0
    simp only [List.length_nil] at M0
    have M := Lib.hid M0
    have bS := BS.out.trans (bb.mono BS.out.size)
    obtain ⟨n0, n1, n2, n3, n4⟩ := cell5 (TN.out.below bb)
    obtain ⟨a0, a1, a2, a3, a4, a5⟩ := cell6 (TW.out.below bb)
    clear M0 bb TN TW BS
    have BS := Lib.hid bS
    clear bS
    go_wp2_with fail
    refine M.out.mono ?_
    rintro e y5 ⟨rfl, bb⟩
    have B9 := Lib.hid (BS.out.trans (bb.mono BS.out.size))
    clear bb n0 n1 n2 n3 n4 a0 a1 a2 a3 a4 a5
    go_wp2_with fail
    go_ret
    exact ⟨ret_bool (by first | rfl | decide), B9.out⟩
end Go.Proofs.YtbdhmelebedpiaaDoor
