/-
  DERIVED. GIVEN WITH THE SEED: THE CARDS: each row of YtchdklbekfdgdabGreatDoorRows.lean that lists a variable, with what it lists TIED to the program's text (the seventh form; the later family's looks); each row that meets fmt, with fmt's text TOLD by the authors' own Lean function (tested against real Go, not proved from fmt's source: count such statements apart). THE CARD IS WHAT COUNTS. Prove the row's statement (the work); the ties are given (YtchdklbekfdgdabGreatDoorTie.lean); close each card by the builder's one call (the guide's Derived/Test/ToyasCard.lean, 'card_holds'). Laid BY PROGRAM, IN A SANDBOX (cutbox-door.mjs). By AI agents, Wed Nov 11 2026. No macro, syntax, notation, axiom, sorry.
-/
import Derived.Test.YtchdklbekfdgdabGreatDoorRows
import GoSem.ClaimSeven
namespace Go.Proofs.YtchdklbekfdgdabGreatDoor
namespace Rows

/-- THE TIED CARD OF 'foolscaplaw04.PropsLines'. -/
def propsLinesCard : Claim7 := { stood := { row := propsLinesRow, standIns := [], harness := (true, "8bcf46ef219b4e0fb49646a2643ca974c9e66dc937edf8db275f944b677999ca"), looks := true }, kinds := [], alts := [], laidByText := true, laidKinds := [.data, .data, .data, .data, .handle, .pinned], laidTests := true, laidLooks := .later }
def PropsLinesCardSaid : Prop := Claim7.holds Tryz.pinned (.plain (OpenSpec.ofChange propsLinesSpec)) propsLinesCard

/-- THE TIED CARD OF 'foolscaplaw04.PropsEdges'. -/
def propsEdgesCard : Claim7 := { stood := { row := propsEdgesRow, standIns := [], harness := (true, "8bcf46ef219b4e0fb49646a2643ca974c9e66dc937edf8db275f944b677999ca"), looks := true }, kinds := [], alts := [], laidByText := true, laidKinds := [.data, .handle, .pinned], laidTests := true, laidLooks := .later }
def PropsEdgesCardSaid : Prop := Claim7.holds Tryz.pinned (.plain (OpenSpec.ofChange propsEdgesSpec)) propsEdgesCard

/-- THE TIED CARD OF 'foolscaplaw04.PropsSays'. -/
def propsSaysCard : Claim7 := { stood := { row := propsSaysRow, standIns := [], harness := (true, "8bcf46ef219b4e0fb49646a2643ca974c9e66dc937edf8db275f944b677999ca"), looks := true }, kinds := [], alts := [], laidByText := true, laidKinds := [.data, .handle, .pinned], laidTests := true, laidLooks := .later }
def PropsSaysCardSaid : Prop := Claim7.holds Tryz.pinned (.plain (OpenSpec.ofChange propsSaysSpec)) propsSaysCard

/-- THE SECOND FORM's CARD OF 'foolscaplaw04.PropsLines'. -/
def propsLinesUptoCard : Claim7 := { stood := { row := propsLinesUptoRow, standIns := [], harness := (true, "8bcf46ef219b4e0fb49646a2643ca974c9e66dc937edf8db275f944b677999ca"), looks := true }, kinds := [], alts := [], laidByText := true, laidKinds := [.data, .data, .data, .data, .handle, .pinned], laidTests := true, laidLooks := .later }
def PropsLinesUptoCardSaid : Prop := Claim7.holds Tryz.pinned (.plain (OpenSpec.upto propsLinesSpec)) propsLinesUptoCard

/-- THE SECOND FORM's CARD OF 'foolscaplaw04.PropsEdges'. -/
def propsEdgesUptoCard : Claim7 := { stood := { row := propsEdgesUptoRow, standIns := [], harness := (true, "8bcf46ef219b4e0fb49646a2643ca974c9e66dc937edf8db275f944b677999ca"), looks := true }, kinds := [], alts := [], laidByText := true, laidKinds := [.data, .handle, .pinned], laidTests := true, laidLooks := .later }
def PropsEdgesUptoCardSaid : Prop := Claim7.holds Tryz.pinned (.plain (OpenSpec.upto propsEdgesSpec)) propsEdgesUptoCard

/-- THE SECOND FORM's CARD OF 'foolscaplaw04.PropsSays'. -/
def propsSaysUptoCard : Claim7 := { stood := { row := propsSaysUptoRow, standIns := [], harness := (true, "8bcf46ef219b4e0fb49646a2643ca974c9e66dc937edf8db275f944b677999ca"), looks := true }, kinds := [], alts := [], laidByText := true, laidKinds := [.data, .handle, .pinned], laidTests := true, laidLooks := .later }
def PropsSaysUptoCardSaid : Prop := Claim7.holds Tryz.pinned (.plain (OpenSpec.upto propsSaysSpec)) propsSaysUptoCard
end Rows
end Go.Proofs.YtchdklbekfdgdabGreatDoor
