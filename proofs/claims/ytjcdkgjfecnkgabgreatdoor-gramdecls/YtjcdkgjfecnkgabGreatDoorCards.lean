/-
  DERIVED. GIVEN WITH THE SEED: THE CARDS: each row of YtjcdkgjfecnkgabGreatDoorRows.lean that lists a variable, with what it lists TIED to the program's text (the seventh form; the later family's looks); each row that meets fmt, with fmt's text TOLD by the authors' own Lean function (tested against real Go, not proved from fmt's source: count such statements apart). THE CARD IS WHAT COUNTS. Prove the row's statement (the work); the ties are given (YtjcdkgjfecnkgabGreatDoorTie.lean); close each card by the builder's one call (the guide's Derived/Test/ToyasCard.lean, 'card_holds'). Laid BY PROGRAM, IN A SANDBOX (cutbox-door.mjs). By AI agents, Wed Nov 11 2026. No macro, syntax, notation, axiom, sorry.
-/
import Derived.Test.YtjcdkgjfecnkgabGreatDoorRows
import GoSem.ClaimSeven
namespace Go.Proofs.YtjcdkgjfecnkgabGreatDoor
namespace Rows

/-- THE TIED CARD OF 'metronomelaw3.GramMoved'. -/
def gramMovedCard : Claim7 := { stood := { row := gramMovedRow, standIns := [], harness := (true, "5d573dc0559d3f9d24ec1b6981ab2f85b72993a13b6248825083064c3ba8bfdc"), looks := true }, kinds := [], alts := [], laidByText := true, laidKinds := [.data, .data, .data, .handle, .sentinel, .sentinel], laidTests := true, laidLooks := .later }
def GramMovedCardSaid : Prop := Claim7.holds Tryz.pinned (.plain (OpenSpec.ofChange gramMovedSpec)) gramMovedCard

/-- THE TIED CARD OF 'metronomelaw3.GramDecls'. -/
def gramDeclsCard : Claim7 := { stood := { row := gramDeclsRow, standIns := [], harness := (true, "5d573dc0559d3f9d24ec1b6981ab2f85b72993a13b6248825083064c3ba8bfdc"), looks := true }, kinds := [], alts := [], laidByText := true, laidKinds := [.data, .data, .data, .handle, .sentinel, .sentinel], laidTests := true, laidLooks := .later }
def GramDeclsCardSaid : Prop := Claim7.holds Tryz.pinned (.plain (OpenSpec.ofChange gramDeclsSpec)) gramDeclsCard

/-- THE TIED CARD OF 'metronomelaw3.GramWrong'. -/
def gramWrongCard : Claim7 := { stood := { row := gramWrongRow, standIns := [], harness := (true, "5d573dc0559d3f9d24ec1b6981ab2f85b72993a13b6248825083064c3ba8bfdc"), looks := true }, kinds := [], alts := [], laidByText := true, laidKinds := [.data, .data, .data, .handle, .sentinel, .sentinel], laidTests := true, laidLooks := .later }
def GramWrongCardSaid : Prop := Claim7.holds Tryz.pinned (.plain (OpenSpec.ofChange gramWrongSpec)) gramWrongCard

/-- THE SECOND FORM's CARD OF 'metronomelaw3.GramMoved'. -/
def gramMovedUptoCard : Claim7 := { stood := { row := gramMovedUptoRow, standIns := [], harness := (true, "5d573dc0559d3f9d24ec1b6981ab2f85b72993a13b6248825083064c3ba8bfdc"), looks := true }, kinds := [], alts := [], laidByText := true, laidKinds := [.data, .data, .data, .handle, .sentinel, .sentinel], laidTests := true, laidLooks := .later }
def GramMovedUptoCardSaid : Prop := Claim7.holds Tryz.pinned (.plain (OpenSpec.upto gramMovedSpec)) gramMovedUptoCard

/-- THE SECOND FORM's CARD OF 'metronomelaw3.GramDecls'. -/
def gramDeclsUptoCard : Claim7 := { stood := { row := gramDeclsUptoRow, standIns := [], harness := (true, "5d573dc0559d3f9d24ec1b6981ab2f85b72993a13b6248825083064c3ba8bfdc"), looks := true }, kinds := [], alts := [], laidByText := true, laidKinds := [.data, .data, .data, .handle, .sentinel, .sentinel], laidTests := true, laidLooks := .later }
def GramDeclsUptoCardSaid : Prop := Claim7.holds Tryz.pinned (.plain (OpenSpec.upto gramDeclsSpec)) gramDeclsUptoCard

/-- THE SECOND FORM's CARD OF 'metronomelaw3.GramWrong'. -/
def gramWrongUptoCard : Claim7 := { stood := { row := gramWrongUptoRow, standIns := [], harness := (true, "5d573dc0559d3f9d24ec1b6981ab2f85b72993a13b6248825083064c3ba8bfdc"), looks := true }, kinds := [], alts := [], laidByText := true, laidKinds := [.data, .data, .data, .handle, .sentinel, .sentinel], laidTests := true, laidLooks := .later }
def GramWrongUptoCardSaid : Prop := Claim7.holds Tryz.pinned (.plain (OpenSpec.upto gramWrongSpec)) gramWrongUptoCard
end Rows
end Go.Proofs.YtjcdkgjfecnkgabGreatDoor
