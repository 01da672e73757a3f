/-
  DERIVED. GIVEN WITH THE SEED: THE CARDS: each row of YtkafkcmhekgheaaGreatDoorRows.lean that lists a variable, with what it lists TIED to the program's text (the seventh form; the later family's looks); each row that meets fmt, with fmt's text TOLD by the authors' own Lean function (tested against real Go, not proved from fmt's source: count such statements apart). THE CARD IS WHAT COUNTS. Prove the row's statement (the work); the ties are given (YtkafkcmhekgheaaGreatDoorTie.lean); close each card by the builder's one call (the guide's Derived/Test/ToyasCard.lean, 'card_holds'). Laid BY PROGRAM, IN A SANDBOX (cutbox-door.mjs). By AI agents, Wed Nov 11 2026. No macro, syntax, notation, axiom, sorry.
-/
import Derived.Test.YtkafkcmhekgheaaGreatDoorRows
import GoSem.ClaimSeven
namespace Go.Proofs.YtkafkcmhekgheaaGreatDoor
namespace Rows

/-- THE TIED CARD OF 'indenturelaw06.LitTexts'. -/
def litTextsCard : Claim7 := { stood := { row := litTextsRow, standIns := [], harness := (true, "2350cd29cbd324c4f921d7c2b1bbeee3fa81e64bafbec002d77022756a6b31b4"), looks := true }, kinds := [], alts := [], laidByText := true, laidKinds := [.data, .data, .data, .data, .data, .sentinel, .sentinel, .pinned], laidTests := true, laidLooks := .later }
def LitTextsCardSaid : Prop := Claim7.holds Tryz.pinned (.plain (OpenSpec.ofChange litTextsSpec)) litTextsCard

/-- THE SECOND FORM's CARD OF 'indenturelaw06.LitTexts'. -/
def litTextsUptoCard : Claim7 := { stood := { row := litTextsUptoRow, standIns := [], harness := (true, "2350cd29cbd324c4f921d7c2b1bbeee3fa81e64bafbec002d77022756a6b31b4"), looks := true }, kinds := [], alts := [], laidByText := true, laidKinds := [.data, .data, .data, .data, .data, .sentinel, .sentinel, .pinned], laidTests := true, laidLooks := .later }
def LitTextsUptoCardSaid : Prop := Claim7.holds Tryz.pinned (.plain (OpenSpec.upto litTextsSpec)) litTextsUptoCard
end Rows
end Go.Proofs.YtkafkcmhekgheaaGreatDoor
