/- The law TypArenas: its walk. -/
import Derived.Test.YthgdceikmipppaaDoorTypData
import Derived.Test.YthgdceikmipppaaDoorTypRefRight
import Derived.Test.YthgdceikmipppaaDoorTypArena
import Derived.Test.YthgdceikmipppaaDoorTypStart
namespace Go.Proofs.YthgdceikmipppaaDoor
open Go.RowKit
set_option linter.unusedSimpArgs false
set_option linter.unusedVariables false

/-- What is told of a row of types that came in. -/
def CameT (w : World) (a : Option Addr) (l : List Ty) (cap : Nat) : Prop := l.length ≤ cap ∧ cap ≤ 9223372036854775807 ∧ InRow w a l
theorem CameT.below {w w' : World} {a : Option Addr} {l : List Ty} {cap : Nat} (h : CameT w a l cap) (hb : Below w.heap.size w w') : CameT w' a l cap := ⟨h.1, h.2.1, h.2.2.below hb⟩
set_option maxHeartbeats 4000000 in
set_option maxRecDepth 100000 in
theorem arenas_walk (a0 : Option Addr) (l0 : List Ty) (cap0 : Nat) (w : World) (h0 : CameT w a0 l0 cap0) (hE : Env w) :
    Calls Tryd.prog 3 #[.slice a0 l0.length cap0] w fun e w' => e = .returned (.bool true) ∧ Below w.heap.size w w' := by
  have F0 := Lib.hid (few_any l0 a0 cap0 60 w h0.2.2 h0.1 h0.2.1 (by decide))
  have HE := Lib.hid hE
  clear h0 hE
  go_enter Tryd.func3, Tryd.ntmps3
  go_wp2_with fail
  refine F0.out.mono ?_
  rintro e w1 ⟨ao, cap, us, rfl, r0, hc, hm, b1⟩
  have HE1 := Lib.hid (HE.out.below b1)
  have R1 := Lib.hid r0
  have B1 := Lib.hid b1
  have HA := Lib.hid (alive_any w1 HE1.out)
  clear b1 r0 F0 HE
  go_wp2_with fail
  refine HA.out.mono ?_
  rintro e w2 ⟨rfl, b2⟩
  have HE2 := Lib.hid (HE1.out.below b2)
  have R2 := Lib.hid (R1.out.below b2)
  have B2 := Lib.hid (B1.out.trans (b2.mono B1.out.size))
  have HS := Lib.hid (pstart_any w2 HE2.out.basics)
  clear b2 R1 B1 HE1 HA
  go_wp2_with fail
  refine HS.out.mono ?_
  rintro e w3 ⟨⟨bo, bc, rfl, rb, hbc⟩, b3⟩
  have HE3 := Lib.hid (HE2.out.below b3)
  have R3 := Lib.hid (R2.out.below b3)
  have RB := Lib.hid rb
  have B3 := Lib.hid (B2.out.trans (b3.mono B2.out.size))
  have HS2 := Lib.hid (start_any w3)
  clear b3 rb R2 B2 HE2 HS
  go_wp2_with fail
  refine HS2.out.mono ?_
  rintro e w4 ⟨⟨co, cc, rfl, rc, hcc⟩, b4⟩
  have HE4 := Lib.hid (HE3.out.below b4)
  have R4 := Lib.hid (R3.out.below b4)
  have RB4 := Lib.hid (RB.out.below b4)
  have RC := Lib.hid rc
  have B4 := Lib.hid (B3.out.trans (b4.mono B3.out.size))
  have HAR := Lib.hid (arenas_any basics basics bo co bc cc w4 RB4.out RC.out (by decide) (by decide))
  rw [basics_len, decide_eq_true (rfl : basics = basics)] at HAR
  clear b4 rc R3 B3 HE3 HS2 RB
  go_wp2_with fail
  refine HAR.out.mono ?_
  rintro e w5 ⟨rfl, b5⟩
  have HE5 := Lib.hid (HE4.out.below b5)
  have R5 := Lib.hid (R4.out.below b5)
  have B5 := Lib.hid (B4.out.trans (b5.mono B4.out.size))
  have HP := Lib.hid (pright_any us ao cap w5 R5.out (by omega) hc HE5.out)
  clear b5 R4 B4 HE4 HAR RB4 RC
  go_wp2_with fail
  refine HP.out.mono ?_
  rintro e w6 ⟨rfl, b6⟩
  have R6 := Lib.hid (R5.out.below b6)
  have B6 := Lib.hid (B5.out.trans (b6.mono B5.out.size))
  have HR := Lib.hid (refright_any us ao cap w6 R6.out (by omega) hc)
  clear b6 R5 B5 HE5 HP
  go_wp2_with fail
  refine HR.out.mono ?_
  rintro e w7 ⟨rfl, b7⟩
  have B7 := Lib.hid (B6.out.trans (b7.mono B6.out.size))
  clear b7 R6 B6 HR
  go_wp2_with fail
  go_ret
  exact ⟨by first | rfl | (simp; done), B7.out⟩
end Go.Proofs.YthgdceikmipppaaDoor
