/- The law AstRight: its walk. -/
import Derived.Test.YtfcoelnibpinmaaDoorAstAlive
import Derived.Test.YtfcoelnibpinmaaDoorAstFew
import Derived.Test.YtfcoelnibpinmaaDoorAstRefLike
import Derived.Test.YtfcoelnibpinmaaDoorAstRefRight
namespace Go.Proofs.YtfcoelnibpinmaaDoor
open Go.RowKit

/-- What is told of nodes that came in. -/
def Came (w : World) (a : Option Addr) (ns : List Nd) (cap : Nat) : Prop := ns.length ≤ cap ∧ cap ≤ 9223372036854775807 ∧ NRow w a ns ∧ (∀ n ∈ ns, n.text.size ≤ 9223372036854775807) ∧ ∀ n ∈ ns, n.kids.length ≤ 9223372036854775807
theorem Came.below {w w' : World} {a : Option Addr} {ns : List Nd} {cap : Nat} (h : Came w a ns cap) (hb : Below w.heap.size w w') : Came w' a ns cap := ⟨h.1, h.2.1, h.2.2.1.below hb, h.2.2.2⟩
theorem few_came (a : Option Addr) (cap : Nat) (ns : List Nd) (w : World) (h : Came w a ns cap) :
    Calls Tryd.prog 6 #[.slice a ns.length cap] w fun e w' => (∃ v ms, e = .returned v ∧ Nds w' v ms ∧ ms.length ≤ 120 ∧ ∀ n ∈ ms, n.kids.length ≤ 60) ∧ Below w.heap.size w w' :=
  few_any a cap ns w h.2.2.1 h.1 h.2.1 h.2.2.2.1 h.2.2.2.2
theorem likeB_refl (ns : List Nd) : likeB ns ns = true := by
  unfold likeB likeN
  simp
set_option maxHeartbeats 4000000 in
theorem right_walk (a0 : Option Addr) (ns0 : List Nd) (cap0 : Nat) (a1 : Option Addr) (ns1 : List Nd) (cap1 : Nat) (w : World) (h0 : Came w a0 ns0 cap0) (h1 : Came w a1 ns1 cap1) (hC : Counts w) :
    Calls Tryd.prog 3 #[.slice a0 ns0.length cap0, .slice a1 ns1.length cap1] w fun e w' => e = .returned (.bool true) ∧ Below w.heap.size w w' := by
  have F0 := Lib.hid (few_came a0 cap0 ns0 w h0)
  have H1 := Lib.hid h1
  have HC := Lib.hid hC
  clear h0 h1 hC
  go_enter Tryd.func3, Tryd.ntmps3
  go_wp2_with fail
  refine F0.out.mono ?_
  rintro e w1 ⟨⟨v, ms, rfl, n0, l0, k0⟩, b1⟩
  have F1 := Lib.hid (few_came a1 cap1 ns1 w1 (H1.out.below b1))
  have N0 := Lib.hid n0
  have C1 := Lib.hid (HC.out.below b1)
  have B1 := Lib.hid b1
  clear n0 b1
  go_wp2_with fail
  refine F1.out.mono ?_
  rintro e w2 ⟨⟨u, ns, rfl, n1, l1, k1⟩, b2⟩
  obtain ⟨ao, ca, rfl, -, r0⟩ := N0.out.below b2
  obtain ⟨bo, cb, rfl, -, r1⟩ := n1
  have R0 := Lib.hid r0
  have R1 := Lib.hid r1
  have k0' : ∀ n ∈ ms, n.kids.length ≤ 2000 := fun n hn => by have := k0 n hn; omega
  have k1' : ∀ n ∈ ns, n.kids.length ≤ 2000 := fun n hn => by have := k1 n hn; omega
  have K0 := Lib.hid k0'
  have K1 := Lib.hid k1'
  have C2 := Lib.hid (C1.out.below b2)
  have B2 := Lib.hid (B1.out.trans (b2.mono B1.out.size))
  have HA := Lib.hid (alive_any w2 C2.out)
  clear r0 r1 k0 k1 k0' k1' b2 B1 C1 N0 F0 F1
  go_wp2_with fail
  refine HA.out.mono ?_
  rintro e w3 ⟨rfl, b3⟩
  have HR := Lib.hid (right_any ao ca ms w3 (R0.out.below b3) (C2.out.below b3) K0.out (by omega))
  have R0' := Lib.hid (R0.out.below b3)
  have R1' := Lib.hid (R1.out.below b3)
  have B3 := Lib.hid (B2.out.trans (b3.mono B2.out.size))
  clear b3 R0 R1 B2 HA C2
  go_wp2_with fail
  refine HR.out.mono ?_
  rintro e w4 ⟨rfl, b4⟩
  have HR := Lib.hid (refright_any ao ca ms w4 (R0'.out.below b4) K0.out (by omega))
  have R0 := Lib.hid (R0'.out.below b4)
  have R1 := Lib.hid (R1'.out.below b4)
  have B4 := Lib.hid (B3.out.trans (b4.mono B3.out.size))
  clear b4 R0' R1' B3
  go_wp2_with fail
  refine HR.out.mono ?_
  rintro e w5 ⟨rfl, b5⟩
  have HL := Lib.hid (like_any ao bo ca cb ms ns w5 (R0.out.below b5) (R1.out.below b5) K0.out K1.out (by omega) (by omega))
  have R0' := Lib.hid (R0.out.below b5)
  have R1' := Lib.hid (R1.out.below b5)
  have B5 := Lib.hid (B4.out.trans (b5.mono B4.out.size))
  generalize treeB ms = t
  clear b5 R0 R1 B4 HR
  go_wp2_with fail
  refine HL.out.mono ?_
  rintro e w6 ⟨rfl, b6⟩
  have HL := Lib.hid (reflike_any ao bo ca cb ms ns w6 (R0'.out.below b6) (R1'.out.below b6) K0.out K1.out (by omega))
  have R0 := Lib.hid (R0'.out.below b6)
  have B6 := Lib.hid (B5.out.trans (b6.mono B5.out.size))
  clear b6 R0' R1' B5
  go_wp2_with fail
  refine HL.out.mono ?_
  rintro e w7 ⟨rfl, b7⟩
  have HS := Lib.hid (like_any ao ao ca ca ms ms w7 (R0.out.below b7) (R0.out.below b7) K0.out K0.out (by omega) (by omega))
  have B7 := Lib.hid (B6.out.trans (b7.mono B6.out.size))
  generalize likeB ms ns = s
  clear b7 R0 B6 HL
  go_wp2_with fail
  refine HS.out.mono ?_
  rintro e w8 ⟨rfl, b8⟩
  rw [likeB_refl]
  have B8 := Lib.hid (B7.out.trans (b8.mono B7.out.size))
  clear b8
  go_wp2_with fail
  go_ret
  exact ⟨rfl, B8.out⟩
end Go.Proofs.YtfcoelnibpinmaaDoor
