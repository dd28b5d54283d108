/-
  DERIVED. GIVEN WITH THE SEED: THE CARDS: each row of YtjcdkgjfecnkgaaGreatDoorRows.lean that lists a variable, with what it lists TIED to the program's text (the seventh form; the later family's looks); each row that meets fmt, with fmt's text TOLD by the authors' own Lean function (tested against real Go, not proved from fmt's source: count such statements apart). THE CARD IS WHAT COUNTS. Prove the row's statement (the work); the ties are given (YtjcdkgjfecnkgaaGreatDoorTie.lean); close each card by the builder's one call (the guide's Derived/Test/ToyasCard.lean, 'card_holds'). Laid BY PROGRAM, IN A SANDBOX (cutbox-door.mjs). By AI agents, Wed Nov 11 2026. No macro, syntax, notation, axiom, sorry.
-/
import Derived.Test.YtjcdkgjfecnkgaaGreatDoorRows
import GoSem.ClaimSeven
namespace Go.Proofs.YtjcdkgjfecnkgaaGreatDoor
namespace Rows

/-- THE TIED CARD OF 'metronomelaw3.GramParses'. -/
def gramParsesCard : Claim7 := { stood := { row := gramParsesRow, standIns := [], harness := (true, "a330c0083ded16dbc3144b4720e2435e1471a7785907f585d2702b74efc50ed4"), looks := true }, kinds := [], alts := [], laidByText := true, laidKinds := [.data, .data, .data, .handle, .sentinel, .sentinel], laidTests := true, laidLooks := .later }
def GramParsesCardSaid : Prop := Claim7.holds Tryz.pinned (.plain (OpenSpec.ofChange gramParsesSpec)) gramParsesCard

/-- THE TIED CARD OF 'metronomelaw3.GramBodies'. -/
def gramBodiesCard : Claim7 := { stood := { row := gramBodiesRow, standIns := [], harness := (true, "a330c0083ded16dbc3144b4720e2435e1471a7785907f585d2702b74efc50ed4"), looks := true }, kinds := [], alts := [], laidByText := true, laidKinds := [.data, .data, .data, .handle, .sentinel, .sentinel], laidTests := true, laidLooks := .later }
def GramBodiesCardSaid : Prop := Claim7.holds Tryz.pinned (.plain (OpenSpec.ofChange gramBodiesSpec)) gramBodiesCard

/-- THE TIED CARD OF 'metronomelaw3.GramLevels'. -/
def gramLevelsCard : Claim7 := { stood := { row := gramLevelsRow, standIns := [], harness := (true, "a330c0083ded16dbc3144b4720e2435e1471a7785907f585d2702b74efc50ed4"), looks := true }, kinds := [], alts := [], laidByText := true, laidKinds := [.data, .data, .data, .handle, .sentinel, .sentinel], laidTests := true, laidLooks := .later }
def GramLevelsCardSaid : Prop := Claim7.holds Tryz.pinned (.plain (OpenSpec.ofChange gramLevelsSpec)) gramLevelsCard

/-- THE TIED CARD OF 'metronomelaw3.GramDeep'. -/
def gramDeepCard : Claim7 := { stood := { row := gramDeepRow, standIns := [], harness := (true, "a330c0083ded16dbc3144b4720e2435e1471a7785907f585d2702b74efc50ed4"), looks := true }, kinds := [], alts := [], laidByText := true, laidKinds := [.data, .data, .data, .handle, .sentinel, .sentinel], laidTests := true, laidLooks := .later }
def GramDeepCardSaid : Prop := Claim7.holds Tryz.pinned (.plain (OpenSpec.ofChange gramDeepSpec)) gramDeepCard

/-- THE TIED CARD OF 'metronomelaw3.GramMany'. -/
def gramManyCard : Claim7 := { stood := { row := gramManyRow, standIns := [], harness := (true, "a330c0083ded16dbc3144b4720e2435e1471a7785907f585d2702b74efc50ed4"), looks := true }, kinds := [], alts := [], laidByText := true, laidKinds := [.data, .data, .data, .handle, .sentinel, .sentinel], laidTests := true, laidLooks := .later }
def GramManyCardSaid : Prop := Claim7.holds Tryz.pinned (.plain (OpenSpec.ofChange gramManySpec)) gramManyCard

/-- THE TIED CARD OF 'metronomelaw3.GramBrackets'. -/
def gramBracketsCard : Claim7 := { stood := { row := gramBracketsRow, standIns := [], harness := (true, "a330c0083ded16dbc3144b4720e2435e1471a7785907f585d2702b74efc50ed4"), looks := true }, kinds := [], alts := [], laidByText := true, laidKinds := [.data, .data, .data, .handle, .sentinel, .sentinel], laidTests := true, laidLooks := .later }
def GramBracketsCardSaid : Prop := Claim7.holds Tryz.pinned (.plain (OpenSpec.ofChange gramBracketsSpec)) gramBracketsCard

/-- THE SECOND FORM's CARD OF 'metronomelaw3.GramParses'. -/
def gramParsesUptoCard : Claim7 := { stood := { row := gramParsesUptoRow, standIns := [], harness := (true, "a330c0083ded16dbc3144b4720e2435e1471a7785907f585d2702b74efc50ed4"), looks := true }, kinds := [], alts := [], laidByText := true, laidKinds := [.data, .data, .data, .handle, .sentinel, .sentinel], laidTests := true, laidLooks := .later }
def GramParsesUptoCardSaid : Prop := Claim7.holds Tryz.pinned (.plain (OpenSpec.upto gramParsesSpec)) gramParsesUptoCard

/-- THE SECOND FORM's CARD OF 'metronomelaw3.GramBodies'. -/
def gramBodiesUptoCard : Claim7 := { stood := { row := gramBodiesUptoRow, standIns := [], harness := (true, "a330c0083ded16dbc3144b4720e2435e1471a7785907f585d2702b74efc50ed4"), looks := true }, kinds := [], alts := [], laidByText := true, laidKinds := [.data, .data, .data, .handle, .sentinel, .sentinel], laidTests := true, laidLooks := .later }
def GramBodiesUptoCardSaid : Prop := Claim7.holds Tryz.pinned (.plain (OpenSpec.upto gramBodiesSpec)) gramBodiesUptoCard

/-- THE SECOND FORM's CARD OF 'metronomelaw3.GramLevels'. -/
def gramLevelsUptoCard : Claim7 := { stood := { row := gramLevelsUptoRow, standIns := [], harness := (true, "a330c0083ded16dbc3144b4720e2435e1471a7785907f585d2702b74efc50ed4"), looks := true }, kinds := [], alts := [], laidByText := true, laidKinds := [.data, .data, .data, .handle, .sentinel, .sentinel], laidTests := true, laidLooks := .later }
def GramLevelsUptoCardSaid : Prop := Claim7.holds Tryz.pinned (.plain (OpenSpec.upto gramLevelsSpec)) gramLevelsUptoCard

/-- THE SECOND FORM's CARD OF 'metronomelaw3.GramDeep'. -/
def gramDeepUptoCard : Claim7 := { stood := { row := gramDeepUptoRow, standIns := [], harness := (true, "a330c0083ded16dbc3144b4720e2435e1471a7785907f585d2702b74efc50ed4"), looks := true }, kinds := [], alts := [], laidByText := true, laidKinds := [.data, .data, .data, .handle, .sentinel, .sentinel], laidTests := true, laidLooks := .later }
def GramDeepUptoCardSaid : Prop := Claim7.holds Tryz.pinned (.plain (OpenSpec.upto gramDeepSpec)) gramDeepUptoCard

/-- THE SECOND FORM's CARD OF 'metronomelaw3.GramMany'. -/
def gramManyUptoCard : Claim7 := { stood := { row := gramManyUptoRow, standIns := [], harness := (true, "a330c0083ded16dbc3144b4720e2435e1471a7785907f585d2702b74efc50ed4"), looks := true }, kinds := [], alts := [], laidByText := true, laidKinds := [.data, .data, .data, .handle, .sentinel, .sentinel], laidTests := true, laidLooks := .later }
def GramManyUptoCardSaid : Prop := Claim7.holds Tryz.pinned (.plain (OpenSpec.upto gramManySpec)) gramManyUptoCard

/-- THE SECOND FORM's CARD OF 'metronomelaw3.GramBrackets'. -/
def gramBracketsUptoCard : Claim7 := { stood := { row := gramBracketsUptoRow, standIns := [], harness := (true, "a330c0083ded16dbc3144b4720e2435e1471a7785907f585d2702b74efc50ed4"), looks := true }, kinds := [], alts := [], laidByText := true, laidKinds := [.data, .data, .data, .handle, .sentinel, .sentinel], laidTests := true, laidLooks := .later }
def GramBracketsUptoCardSaid : Prop := Claim7.holds Tryz.pinned (.plain (OpenSpec.upto gramBracketsSpec)) gramBracketsUptoCard
end Rows
end Go.Proofs.YtjcdkgjfecnkgaaGreatDoor
