/-
  DERIVED. GIVEN WITH THE SEED: THE CARDS: each row of YtdcajkagakikiaaGreatDoorRows.lean that lists a variable, with what it lists TIED to the program's text (the seventh form; the later family's looks); each row that meets fmt, with fmt's text TOLD by the authors' own Lean function (tested against real Go, not proved from fmt's source: count such statements apart). THE CARD IS WHAT COUNTS. Prove the row's statement (the work); the ties are given (YtdcajkagakikiaaGreatDoorTie.lean); close each card by the builder's one call (the guide's Derived/Test/ToyasCard.lean, 'card_holds'). Laid BY PROGRAM, IN A SANDBOX (cutbox-door.mjs). By AI agents, Wed Nov 11 2026. No macro, syntax, notation, axiom, sorry.
-/
import Derived.Test.YtdcajkagakikiaaGreatDoorRows
import GoSem.ClaimSeven
namespace Go.Proofs.YtdcajkagakikiaaGreatDoor
namespace Rows

/-- THE TIED CARD OF 'indenturelaw13.SelFinds'. -/
def selFindsCard : Claim7 := { stood := { row := selFindsRow, standIns := [], harness := (true, "a9e18d8f1fbae206da4d1ec55055af5e19ddc6bd4e27108af8ea5e671252bdc0"), looks := false }, kinds := [], alts := [], laidByText := true, laidKinds := [.data, .data, .data, .data], laidTests := true, laidLooks := .later }
def SelFindsCardSaid : Prop := Claim7.holds Tryz.pinned (.plain (OpenSpec.ofChange selFindsSpec)) selFindsCard

/-- THE TIED CARD OF 'indenturelaw13.SelNames'. -/
def selNamesCard : Claim7 := { stood := { row := selNamesRow, standIns := [], harness := (true, "a9e18d8f1fbae206da4d1ec55055af5e19ddc6bd4e27108af8ea5e671252bdc0"), looks := false }, kinds := [], alts := [], laidByText := true, laidKinds := [.data, .data, .data, .data], laidTests := true, laidLooks := .later }
def SelNamesCardSaid : Prop := Claim7.holds Tryz.pinned (.plain (OpenSpec.ofChange selNamesSpec)) selNamesCard

/-- THE SECOND FORM's CARD OF 'indenturelaw13.SelFinds'. -/
def selFindsUptoCard : Claim7 := { stood := { row := selFindsUptoRow, standIns := [], harness := (true, "a9e18d8f1fbae206da4d1ec55055af5e19ddc6bd4e27108af8ea5e671252bdc0"), looks := false }, kinds := [], alts := [], laidByText := true, laidKinds := [.data, .data, .data, .data], laidTests := true, laidLooks := .later }
def SelFindsUptoCardSaid : Prop := Claim7.holds Tryz.pinned (.plain (OpenSpec.upto selFindsSpec)) selFindsUptoCard

/-- THE SECOND FORM's CARD OF 'indenturelaw13.SelNames'. -/
def selNamesUptoCard : Claim7 := { stood := { row := selNamesUptoRow, standIns := [], harness := (true, "a9e18d8f1fbae206da4d1ec55055af5e19ddc6bd4e27108af8ea5e671252bdc0"), looks := false }, kinds := [], alts := [], laidByText := true, laidKinds := [.data, .data, .data, .data], laidTests := true, laidLooks := .later }
def SelNamesUptoCardSaid : Prop := Claim7.holds Tryz.pinned (.plain (OpenSpec.upto selNamesSpec)) selNamesUptoCard
end Rows
end Go.Proofs.YtdcajkagakikiaaGreatDoor
