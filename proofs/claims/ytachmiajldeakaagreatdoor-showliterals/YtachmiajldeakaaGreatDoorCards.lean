/-
  DERIVED. GIVEN WITH THE SEED: THE CARDS: each row of YtachmiajldeakaaGreatDoorRows.lean that lists a variable, with what it lists TIED to the program's text (the seventh form; the later family's looks); each row that meets fmt, with fmt's text TOLD by the authors' own Lean function (tested against real Go, not proved from fmt's source: count such statements apart). THE CARD IS WHAT COUNTS. Prove the row's statement (the work); the ties are given (YtachmiajldeakaaGreatDoorTie.lean); close each card by the builder's one call (the guide's Derived/Test/ToyasCard.lean, 'card_holds'). Laid BY PROGRAM, IN A SANDBOX (cutbox-door.mjs). By AI agents, Wed Nov 11 2026. No macro, syntax, notation, axiom, sorry.
-/
import Derived.Test.YtachmiajldeakaaGreatDoorRows
import GoSem.ClaimSeven
namespace Go.Proofs.YtachmiajldeakaaGreatDoor
namespace Rows

/-- THE TIED CARD OF 'metronomelaw4.ShowLiterals'. -/
def showLiteralsCard : Claim7 := { stood := { row := showLiteralsRow, standIns := [], harness := (true, "cb3ef46941b74fa566f7016505a47328b786a0dded3a49441b1d5a9ee862bd30"), looks := true }, kinds := [], alts := [], laidByText := true, laidKinds := [.data, .data, .data, .handle, .sentinel, .sentinel], laidTests := true, laidLooks := .later }
def ShowLiteralsCardSaid : Prop := Claim7.holds Tryz.pinned (.plain (OpenSpec.ofChange showLiteralsSpec)) showLiteralsCard

/-- THE SECOND FORM's CARD OF 'metronomelaw4.ShowLiterals'. -/
def showLiteralsUptoCard : Claim7 := { stood := { row := showLiteralsUptoRow, standIns := [], harness := (true, "cb3ef46941b74fa566f7016505a47328b786a0dded3a49441b1d5a9ee862bd30"), looks := true }, kinds := [], alts := [], laidByText := true, laidKinds := [.data, .data, .data, .handle, .sentinel, .sentinel], laidTests := true, laidLooks := .later }
def ShowLiteralsUptoCardSaid : Prop := Claim7.holds Tryz.pinned (.plain (OpenSpec.upto showLiteralsSpec)) showLiteralsUptoCard
end Rows
end Go.Proofs.YtachmiajldeakaaGreatDoor
