/-
  DERIVED. GIVEN WITH THE SEED: THE CARDS: each row of YthgdceikmipppaaDoorRows.lean that lists a variable, with what it lists TIED to the program's text (the seventh form; the later family's looks); each row that meets fmt, with fmt's text TOLD by the authors' own Lean function (tested against real Go, not proved from fmt's source: count such statements apart). THE CARD IS WHAT COUNTS. Prove the row's statement (the work); the ties are given (YthgdceikmipppaaDoorTie.lean); close each card by the builder's one call (the guide's Derived/Test/ToyasCard.lean, 'card_holds'). Laid BY PROGRAM, IN A SANDBOX (cutbox-door.mjs). By AI agents, Wed Nov 11 2026. No macro, syntax, notation, axiom, sorry.
-/
import Derived.Test.YthgdceikmipppaaDoorRows
import GoSem.ClaimSeven
namespace Go.Proofs.YthgdceikmipppaaDoor
namespace Rows

/-- THE TIED CARD OF 'indenturelaw10.TypArenas'. -/
def typArenasCard : Claim7 := { stood := { row := typArenasRow, standIns := [], harness := (true, "6dd7cd32cab2e08e205477962697f0d3eabc55b3f1a6a2bb6c295a6c9d912bfd"), looks := false }, kinds := [], alts := [], laidByText := true, laidKinds := [.data, .data, .data, .data], laidTests := true, laidLooks := .later }
def TypArenasCardSaid : Prop := Claim7.holds Tryd.pinned (.plain (OpenSpec.ofChange typArenasSpec)) typArenasCard

/-- THE TIED CARD OF 'indenturelaw10.TypAdds'. -/
def typAddsCard : Claim7 := { stood := { row := typAddsRow, standIns := [], harness := (true, "6dd7cd32cab2e08e205477962697f0d3eabc55b3f1a6a2bb6c295a6c9d912bfd"), looks := false }, kinds := [], alts := [], laidByText := true, laidKinds := [.data, .data, .data, .data], laidTests := true, laidLooks := .later }
def TypAddsCardSaid : Prop := Claim7.holds Tryd.pinned (.plain (OpenSpec.ofChange typAddsSpec)) typAddsCard

/-- THE TIED CARD OF 'indenturelaw10.TypOnce'. -/
def typOnceCard : Claim7 := { stood := { row := typOnceRow, standIns := [], harness := (true, "6dd7cd32cab2e08e205477962697f0d3eabc55b3f1a6a2bb6c295a6c9d912bfd"), looks := false }, kinds := [], alts := [], laidByText := true, laidKinds := [.data, .data, .data, .data], laidTests := true, laidLooks := .later }
def TypOnceCardSaid : Prop := Claim7.holds Tryd.pinned (.plain (OpenSpec.ofChange typOnceSpec)) typOnceCard

/-- THE SECOND FORM's CARD OF 'indenturelaw10.TypArenas'. -/
def typArenasUptoCard : Claim7 := { stood := { row := typArenasUptoRow, standIns := [], harness := (true, "6dd7cd32cab2e08e205477962697f0d3eabc55b3f1a6a2bb6c295a6c9d912bfd"), looks := false }, kinds := [], alts := [], laidByText := true, laidKinds := [.data, .data, .data, .data], laidTests := true, laidLooks := .later }
def TypArenasUptoCardSaid : Prop := Claim7.holds Tryd.pinned (.plain (OpenSpec.upto typArenasSpec)) typArenasUptoCard

/-- THE SECOND FORM's CARD OF 'indenturelaw10.TypAdds'. -/
def typAddsUptoCard : Claim7 := { stood := { row := typAddsUptoRow, standIns := [], harness := (true, "6dd7cd32cab2e08e205477962697f0d3eabc55b3f1a6a2bb6c295a6c9d912bfd"), looks := false }, kinds := [], alts := [], laidByText := true, laidKinds := [.data, .data, .data, .data], laidTests := true, laidLooks := .later }
def TypAddsUptoCardSaid : Prop := Claim7.holds Tryd.pinned (.plain (OpenSpec.upto typAddsSpec)) typAddsUptoCard

/-- THE SECOND FORM's CARD OF 'indenturelaw10.TypOnce'. -/
def typOnceUptoCard : Claim7 := { stood := { row := typOnceUptoRow, standIns := [], harness := (true, "6dd7cd32cab2e08e205477962697f0d3eabc55b3f1a6a2bb6c295a6c9d912bfd"), looks := false }, kinds := [], alts := [], laidByText := true, laidKinds := [.data, .data, .data, .data], laidTests := true, laidLooks := .later }
def TypOnceUptoCardSaid : Prop := Claim7.holds Tryd.pinned (.plain (OpenSpec.upto typOnceSpec)) typOnceUptoCard
end Rows
end Go.Proofs.YthgdceikmipppaaDoor
