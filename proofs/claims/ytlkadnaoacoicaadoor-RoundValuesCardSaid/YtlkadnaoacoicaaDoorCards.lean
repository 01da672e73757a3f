/-
  DERIVED. GIVEN WITH THE SEED: THE CARDS: each row of YtlkadnaoacoicaaDoorRows.lean that lists a variable, with what it lists TIED to the program's text (the seventh form; the later family's looks); each row that meets fmt, with fmt's text TOLD by the authors' own Lean function (tested against real Go, not proved from fmt's source: count such statements apart). THE CARD IS WHAT COUNTS. Prove the row's statement (the work); the ties are given (YtlkadnaoacoicaaDoorTie.lean); close each card by the builder's one call (the guide's Derived/Test/ToyasCard.lean, 'card_holds'). Laid BY PROGRAM, IN A SANDBOX (cutbox-door.mjs). By AI agents, Wed Nov 11 2026. No macro, syntax, notation, axiom, sorry.
-/
import Derived.Test.YtlkadnaoacoicaaDoorRows
import GoSem.ClaimSeven
namespace Go.Proofs.YtlkadnaoacoicaaDoor
namespace Rows

/-- THE TIED CARD OF 'indenturelaw03.RoundValues'. -/
def roundValuesCard : Claim7 := { stood := { row := roundValuesRow, standIns := [], harness := (true, "8cce4ef4dca8e1050b23721e07ecea6654bc787fb701fdaa32439b8b27ea52ed"), looks := false }, kinds := [], alts := [], laidByText := true, laidKinds := [.data], laidTests := true, laidLooks := .later }
def RoundValuesCardSaid : Prop := Claim7.holds Tryd.pinned (.plain (OpenSpec.ofChange roundValuesSpec)) roundValuesCard

/-- THE TIED CARD OF 'indenturelaw03.RoundBack'. -/
def roundBackCard : Claim7 := { stood := { row := roundBackRow, standIns := [], harness := (true, "8cce4ef4dca8e1050b23721e07ecea6654bc787fb701fdaa32439b8b27ea52ed"), looks := false }, kinds := [], alts := [], laidByText := true, laidKinds := [.data], laidTests := true, laidLooks := .later }
def RoundBackCardSaid : Prop := Claim7.holds Tryd.pinned (.plain (OpenSpec.ofChange roundBackSpec)) roundBackCard

/-- THE SECOND FORM's CARD OF 'indenturelaw03.RoundValues'. -/
def roundValuesUptoCard : Claim7 := { stood := { row := roundValuesUptoRow, standIns := [], harness := (true, "8cce4ef4dca8e1050b23721e07ecea6654bc787fb701fdaa32439b8b27ea52ed"), looks := false }, kinds := [], alts := [], laidByText := true, laidKinds := [.data], laidTests := true, laidLooks := .later }
def RoundValuesUptoCardSaid : Prop := Claim7.holds Tryd.pinned (.plain (OpenSpec.upto roundValuesSpec)) roundValuesUptoCard

/-- THE SECOND FORM's CARD OF 'indenturelaw03.RoundBack'. -/
def roundBackUptoCard : Claim7 := { stood := { row := roundBackUptoRow, standIns := [], harness := (true, "8cce4ef4dca8e1050b23721e07ecea6654bc787fb701fdaa32439b8b27ea52ed"), looks := false }, kinds := [], alts := [], laidByText := true, laidKinds := [.data], laidTests := true, laidLooks := .later }
def RoundBackUptoCardSaid : Prop := Claim7.holds Tryd.pinned (.plain (OpenSpec.upto roundBackSpec)) roundBackUptoCard
end Rows
end Go.Proofs.YtlkadnaoacoicaaDoor
