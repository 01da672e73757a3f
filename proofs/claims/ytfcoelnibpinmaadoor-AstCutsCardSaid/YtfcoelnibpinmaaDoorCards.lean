/-
  DERIVED. GIVEN WITH THE SEED: THE CARDS: each row of YtfcoelnibpinmaaDoorRows.lean that lists a variable, with what it lists TIED to the program's text (the seventh form; the later family's looks); each row that meets fmt, with fmt's text TOLD by the authors' own Lean function (tested against real Go, not proved from fmt's source: count such statements apart). THE CARD IS WHAT COUNTS. Prove the row's statement (the work); the ties are given (YtfcoelnibpinmaaDoorTie.lean); close each card by the builder's one call (the guide's Derived/Test/ToyasCard.lean, 'card_holds'). Laid BY PROGRAM, IN A SANDBOX (cutbox-door.mjs). By AI agents, Wed Nov 11 2026. No macro, syntax, notation, axiom, sorry.
-/
import Derived.Test.YtfcoelnibpinmaaDoorRows
import GoSem.ClaimSeven
namespace Go.Proofs.YtfcoelnibpinmaaDoor
namespace Rows

/-- THE TIED CARD OF 'indenturelaw07.AstRight'. -/
def astRightCard : Claim7 := { stood := { row := astRightRow, standIns := [], harness := (true, "d9b53215f1aa82e1fb82429feaca55349af5af46a2edd70c69830cfe7613c6e6"), looks := false }, kinds := [], alts := [], laidByText := true, laidKinds := [.data], laidTests := true, laidLooks := .later }
def AstRightCardSaid : Prop := Claim7.holds Tryd.pinned (.plain (OpenSpec.ofChange astRightSpec)) astRightCard

/-- THE TIED CARD OF 'indenturelaw07.AstCuts'. -/
def astCutsCard : Claim7 := { stood := { row := astCutsRow, standIns := [], harness := (true, "d9b53215f1aa82e1fb82429feaca55349af5af46a2edd70c69830cfe7613c6e6"), looks := false }, kinds := [], alts := [], laidByText := true, laidKinds := [.data], laidTests := true, laidLooks := .later }
def AstCutsCardSaid : Prop := Claim7.holds Tryd.pinned (.plain (OpenSpec.ofChange astCutsSpec)) astCutsCard

/-- THE TIED CARD OF 'indenturelaw07.AstParts'. -/
def astPartsCard : Claim7 := { stood := { row := astPartsRow, standIns := [], harness := (true, "d9b53215f1aa82e1fb82429feaca55349af5af46a2edd70c69830cfe7613c6e6"), looks := false }, kinds := [], alts := [], laidByText := true, laidKinds := [.data], laidTests := true, laidLooks := .later }
def AstPartsCardSaid : Prop := Claim7.holds Tryd.pinned (.plain (OpenSpec.ofChange astPartsSpec)) astPartsCard

/-- THE SECOND FORM's CARD OF 'indenturelaw07.AstRight'. -/
def astRightUptoCard : Claim7 := { stood := { row := astRightUptoRow, standIns := [], harness := (true, "d9b53215f1aa82e1fb82429feaca55349af5af46a2edd70c69830cfe7613c6e6"), looks := false }, kinds := [], alts := [], laidByText := true, laidKinds := [.data], laidTests := true, laidLooks := .later }
def AstRightUptoCardSaid : Prop := Claim7.holds Tryd.pinned (.plain (OpenSpec.upto astRightSpec)) astRightUptoCard

/-- THE SECOND FORM's CARD OF 'indenturelaw07.AstCuts'. -/
def astCutsUptoCard : Claim7 := { stood := { row := astCutsUptoRow, standIns := [], harness := (true, "d9b53215f1aa82e1fb82429feaca55349af5af46a2edd70c69830cfe7613c6e6"), looks := false }, kinds := [], alts := [], laidByText := true, laidKinds := [.data], laidTests := true, laidLooks := .later }
def AstCutsUptoCardSaid : Prop := Claim7.holds Tryd.pinned (.plain (OpenSpec.upto astCutsSpec)) astCutsUptoCard

/-- THE SECOND FORM's CARD OF 'indenturelaw07.AstParts'. -/
def astPartsUptoCard : Claim7 := { stood := { row := astPartsUptoRow, standIns := [], harness := (true, "d9b53215f1aa82e1fb82429feaca55349af5af46a2edd70c69830cfe7613c6e6"), looks := false }, kinds := [], alts := [], laidByText := true, laidKinds := [.data], laidTests := true, laidLooks := .later }
def AstPartsUptoCardSaid : Prop := Claim7.holds Tryd.pinned (.plain (OpenSpec.upto astPartsSpec)) astPartsUptoCard
end Rows
end Go.Proofs.YtfcoelnibpinmaaDoor
