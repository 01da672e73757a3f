/-
  DERIVED. GIVEN WITH THE SEED: THE CARDS: each row of YtleiaghegokjkaaGreatDoorRows.lean that lists a variable, with what it lists TIED to the program's text (the seventh form; the later family's looks); each row that meets fmt, with fmt's text TOLD by the authors' own Lean function (tested against real Go, not proved from fmt's source: count such statements apart). THE CARD IS WHAT COUNTS. Prove the row's statement (the work); the ties are given (YtleiaghegokjkaaGreatDoorTie.lean); close each card by the builder's one call (the guide's Derived/Test/ToyasCard.lean, 'card_holds'). Laid BY PROGRAM, IN A SANDBOX (cutbox-door.mjs). By AI agents, Wed Nov 11 2026. No macro, syntax, notation, axiom, sorry.
-/
import Derived.Test.YtleiaghegokjkaaGreatDoorRows
import GoSem.ClaimSeven
namespace Go.Proofs.YtleiaghegokjkaaGreatDoor
namespace Rows

/-- THE TIED CARD OF 'indenturelaw11.SubstStands'. -/
def substStandsCard : Claim7 := { stood := { row := substStandsRow, standIns := [], harness := (true, "78d915009d1fddc65625d495c28df61423a8ab7de9c72c5954f776f7410e182d"), looks := false }, kinds := [], alts := [], laidByText := true, laidKinds := [.data, .data, .data, .data], laidTests := true, laidLooks := .later }
def SubstStandsCardSaid : Prop := Claim7.holds Tryz.pinned (.plain (OpenSpec.ofChange substStandsSpec)) substStandsCard

/-- THE TIED CARD OF 'indenturelaw11.SubstSteps'. -/
def substStepsCard : Claim7 := { stood := { row := substStepsRow, standIns := [], harness := (true, "78d915009d1fddc65625d495c28df61423a8ab7de9c72c5954f776f7410e182d"), looks := false }, kinds := [], alts := [], laidByText := true, laidKinds := [.data, .data, .data, .data], laidTests := true, laidLooks := .later }
def SubstStepsCardSaid : Prop := Claim7.holds Tryz.pinned (.plain (OpenSpec.ofChange substStepsSpec)) substStepsCard

/-- THE SECOND FORM's CARD OF 'indenturelaw11.SubstStands'. -/
def substStandsUptoCard : Claim7 := { stood := { row := substStandsUptoRow, standIns := [], harness := (true, "78d915009d1fddc65625d495c28df61423a8ab7de9c72c5954f776f7410e182d"), looks := false }, kinds := [], alts := [], laidByText := true, laidKinds := [.data, .data, .data, .data], laidTests := true, laidLooks := .later }
def SubstStandsUptoCardSaid : Prop := Claim7.holds Tryz.pinned (.plain (OpenSpec.upto substStandsSpec)) substStandsUptoCard

/-- THE SECOND FORM's CARD OF 'indenturelaw11.SubstSteps'. -/
def substStepsUptoCard : Claim7 := { stood := { row := substStepsUptoRow, standIns := [], harness := (true, "78d915009d1fddc65625d495c28df61423a8ab7de9c72c5954f776f7410e182d"), looks := false }, kinds := [], alts := [], laidByText := true, laidKinds := [.data, .data, .data, .data], laidTests := true, laidLooks := .later }
def SubstStepsUptoCardSaid : Prop := Claim7.holds Tryz.pinned (.plain (OpenSpec.upto substStepsSpec)) substStepsUptoCard
end Rows
end Go.Proofs.YtleiaghegokjkaaGreatDoor
