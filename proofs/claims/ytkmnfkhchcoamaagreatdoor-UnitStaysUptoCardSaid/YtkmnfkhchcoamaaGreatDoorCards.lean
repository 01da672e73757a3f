/-
  DERIVED. GIVEN WITH THE SEED: THE CARDS: each row of YtkmnfkhchcoamaaGreatDoorRows.lean that lists a variable, with what it lists TIED to the program's text (the seventh form; the later family's looks); each row that meets fmt, with fmt's text TOLD by the authors' own Lean function (tested against real Go, not proved from fmt's source: count such statements apart). THE CARD IS WHAT COUNTS. Prove the row's statement (the work); the ties are given (YtkmnfkhchcoamaaGreatDoorTie.lean); close each card by the builder's one call (the guide's Derived/Test/ToyasCard.lean, 'card_holds'). Laid BY PROGRAM, IN A SANDBOX (cutbox-door.mjs). By AI agents, Wed Nov 11 2026. No macro, syntax, notation, axiom, sorry.
-/
import Derived.Test.YtkmnfkhchcoamaaGreatDoorRows
import GoSem.ClaimSeven
namespace Go.Proofs.YtkmnfkhchcoamaaGreatDoor
namespace Rows

/-- THE TIED CARD OF 'indenturelaw12.UnitRight'. -/
def unitRightCard : Claim7 := { stood := { row := unitRightRow, standIns := [], harness := (true, "101979d3fd6507fd45ab1c3c0e6b8089e376466c5bab98cd04df089836f53e66"), looks := false }, kinds := [], alts := [], laidByText := true, laidKinds := [.data, .data, .data, .data], laidTests := true, laidLooks := .later }
def UnitRightCardSaid : Prop := Claim7.holds Tryz.pinned (.plain (OpenSpec.ofChange unitRightSpec)) unitRightCard

/-- THE TIED CARD OF 'indenturelaw12.UnitStays'. -/
def unitStaysCard : Claim7 := { stood := { row := unitStaysRow, standIns := [], harness := (true, "101979d3fd6507fd45ab1c3c0e6b8089e376466c5bab98cd04df089836f53e66"), looks := false }, kinds := [], alts := [], laidByText := true, laidKinds := [.data, .data, .data, .data], laidTests := true, laidLooks := .later }
def UnitStaysCardSaid : Prop := Claim7.holds Tryz.pinned (.plain (OpenSpec.ofChange unitStaysSpec)) unitStaysCard

/-- THE SECOND FORM's CARD OF 'indenturelaw12.UnitRight'. -/
def unitRightUptoCard : Claim7 := { stood := { row := unitRightUptoRow, standIns := [], harness := (true, "101979d3fd6507fd45ab1c3c0e6b8089e376466c5bab98cd04df089836f53e66"), looks := false }, kinds := [], alts := [], laidByText := true, laidKinds := [.data, .data, .data, .data], laidTests := true, laidLooks := .later }
def UnitRightUptoCardSaid : Prop := Claim7.holds Tryz.pinned (.plain (OpenSpec.upto unitRightSpec)) unitRightUptoCard

/-- THE SECOND FORM's CARD OF 'indenturelaw12.UnitStays'. -/
def unitStaysUptoCard : Claim7 := { stood := { row := unitStaysUptoRow, standIns := [], harness := (true, "101979d3fd6507fd45ab1c3c0e6b8089e376466c5bab98cd04df089836f53e66"), looks := false }, kinds := [], alts := [], laidByText := true, laidKinds := [.data, .data, .data, .data], laidTests := true, laidLooks := .later }
def UnitStaysUptoCardSaid : Prop := Claim7.holds Tryz.pinned (.plain (OpenSpec.upto unitStaysSpec)) unitStaysUptoCard
end Rows
end Go.Proofs.YtkmnfkhchcoamaaGreatDoor
