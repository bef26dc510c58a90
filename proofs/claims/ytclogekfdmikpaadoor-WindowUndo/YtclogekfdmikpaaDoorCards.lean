/-
  DERIVED. GIVEN WITH THE SEED: THE CARDS: each row of YtclogekfdmikpaaDoorRows.lean that lists a variable, with what it lists TIED to the program's text (the seventh form; the later family's looks); each row that meets fmt, with fmt's text TOLD by the authors' own Lean function (tested against real Go, not proved from fmt's source: count such statements apart). THE CARD IS WHAT COUNTS. Prove the row's statement (the work); the ties are given (YtclogekfdmikpaaDoorTie.lean); close each card by the builder's one call (the guide's Derived/Test/ToyasCard.lean, 'card_holds'). Laid BY PROGRAM, IN A SANDBOX (cutbox-door.mjs). By AI agents, Wed Nov 11 2026. No macro, syntax, notation, axiom, sorry.
-/
import Derived.Test.YtclogekfdmikpaaDoorRows
import GoSem.ClaimSeven
namespace Go.Proofs.YtclogekfdmikpaaDoor
namespace Rows

/-- THE TIED CARD OF 'foolscaplaw11.WindowLong'. -/
def windowLongCard : Claim7 := { stood := { row := windowLongRow, standIns := [], harness := (true, "59c159fc9ec085752ecb78fadd5e26bc10f56acd6f20a59ae173fbba1490eb7c"), looks := false }, kinds := [], alts := [], laidByText := true, laidKinds := [.data, .data, .data], laidTests := true, laidLooks := .later }
def WindowLongCardSaid : Prop := Claim7.holds Tryd.pinned (.plain (OpenSpec.ofChange windowLongSpec)) windowLongCard

/-- THE TIED CARD OF 'foolscaplaw11.WindowSame'. -/
def windowSameCard : Claim7 := { stood := { row := windowSameRow, standIns := [], harness := (true, "59c159fc9ec085752ecb78fadd5e26bc10f56acd6f20a59ae173fbba1490eb7c"), looks := false }, kinds := [], alts := [], laidByText := true, laidKinds := [.data, .data, .data], laidTests := true, laidLooks := .later }
def WindowSameCardSaid : Prop := Claim7.holds Tryd.pinned (.plain (OpenSpec.ofChange windowSameSpec)) windowSameCard

/-- THE TIED CARD OF 'foolscaplaw11.WindowUndo'. -/
def windowUndoCard : Claim7 := { stood := { row := windowUndoRow, standIns := [], harness := (true, "59c159fc9ec085752ecb78fadd5e26bc10f56acd6f20a59ae173fbba1490eb7c"), looks := false }, kinds := [], alts := [], laidByText := true, laidKinds := [.data, .data, .data], laidTests := true, laidLooks := .later }
def WindowUndoCardSaid : Prop := Claim7.holds Tryd.pinned (.plain (OpenSpec.ofChange windowUndoSpec)) windowUndoCard

/-- THE TIED CARD OF 'foolscaplaw11.WindowOrder'. -/
def windowOrderCard : Claim7 := { stood := { row := windowOrderRow, standIns := [], harness := (true, "59c159fc9ec085752ecb78fadd5e26bc10f56acd6f20a59ae173fbba1490eb7c"), looks := false }, kinds := [], alts := [], laidByText := true, laidKinds := [.data, .data, .data], laidTests := true, laidLooks := .later }
def WindowOrderCardSaid : Prop := Claim7.holds Tryd.pinned (.plain (OpenSpec.ofChange windowOrderSpec)) windowOrderCard

/-- THE TIED CARD OF 'foolscaplaw11.WindowChars'. -/
def windowCharsCard : Claim7 := { stood := { row := windowCharsRow, standIns := [], harness := (true, "59c159fc9ec085752ecb78fadd5e26bc10f56acd6f20a59ae173fbba1490eb7c"), looks := false }, kinds := [], alts := [], laidByText := true, laidKinds := [.data, .data, .data], laidTests := true, laidLooks := .later }
def WindowCharsCardSaid : Prop := Claim7.holds Tryd.pinned (.plain (OpenSpec.ofChange windowCharsSpec)) windowCharsCard

/-- THE TIED CARD OF 'foolscaplaw11.WindowBounded'. -/
def windowBoundedCard : Claim7 := { stood := { row := windowBoundedRow, standIns := [], harness := (true, "59c159fc9ec085752ecb78fadd5e26bc10f56acd6f20a59ae173fbba1490eb7c"), looks := false }, kinds := [], alts := [], laidByText := true, laidKinds := [.data, .data, .data], laidTests := true, laidLooks := .later }
def WindowBoundedCardSaid : Prop := Claim7.holds Tryd.pinned (.plain (OpenSpec.ofChange windowBoundedSpec)) windowBoundedCard

/-- THE SECOND FORM's CARD OF 'foolscaplaw11.WindowLong'. -/
def windowLongUptoCard : Claim7 := { stood := { row := windowLongUptoRow, standIns := [], harness := (true, "59c159fc9ec085752ecb78fadd5e26bc10f56acd6f20a59ae173fbba1490eb7c"), looks := false }, kinds := [], alts := [], laidByText := true, laidKinds := [.data, .data, .data], laidTests := true, laidLooks := .later }
def WindowLongUptoCardSaid : Prop := Claim7.holds Tryd.pinned (.plain (OpenSpec.upto windowLongSpec)) windowLongUptoCard

/-- THE SECOND FORM's CARD OF 'foolscaplaw11.WindowSame'. -/
def windowSameUptoCard : Claim7 := { stood := { row := windowSameUptoRow, standIns := [], harness := (true, "59c159fc9ec085752ecb78fadd5e26bc10f56acd6f20a59ae173fbba1490eb7c"), looks := false }, kinds := [], alts := [], laidByText := true, laidKinds := [.data, .data, .data], laidTests := true, laidLooks := .later }
def WindowSameUptoCardSaid : Prop := Claim7.holds Tryd.pinned (.plain (OpenSpec.upto windowSameSpec)) windowSameUptoCard

/-- THE SECOND FORM's CARD OF 'foolscaplaw11.WindowUndo'. -/
def windowUndoUptoCard : Claim7 := { stood := { row := windowUndoUptoRow, standIns := [], harness := (true, "59c159fc9ec085752ecb78fadd5e26bc10f56acd6f20a59ae173fbba1490eb7c"), looks := false }, kinds := [], alts := [], laidByText := true, laidKinds := [.data, .data, .data], laidTests := true, laidLooks := .later }
def WindowUndoUptoCardSaid : Prop := Claim7.holds Tryd.pinned (.plain (OpenSpec.upto windowUndoSpec)) windowUndoUptoCard

/-- THE SECOND FORM's CARD OF 'foolscaplaw11.WindowOrder'. -/
def windowOrderUptoCard : Claim7 := { stood := { row := windowOrderUptoRow, standIns := [], harness := (true, "59c159fc9ec085752ecb78fadd5e26bc10f56acd6f20a59ae173fbba1490eb7c"), looks := false }, kinds := [], alts := [], laidByText := true, laidKinds := [.data, .data, .data], laidTests := true, laidLooks := .later }
def WindowOrderUptoCardSaid : Prop := Claim7.holds Tryd.pinned (.plain (OpenSpec.upto windowOrderSpec)) windowOrderUptoCard

/-- THE SECOND FORM's CARD OF 'foolscaplaw11.WindowChars'. -/
def windowCharsUptoCard : Claim7 := { stood := { row := windowCharsUptoRow, standIns := [], harness := (true, "59c159fc9ec085752ecb78fadd5e26bc10f56acd6f20a59ae173fbba1490eb7c"), looks := false }, kinds := [], alts := [], laidByText := true, laidKinds := [.data, .data, .data], laidTests := true, laidLooks := .later }
def WindowCharsUptoCardSaid : Prop := Claim7.holds Tryd.pinned (.plain (OpenSpec.upto windowCharsSpec)) windowCharsUptoCard

/-- THE SECOND FORM's CARD OF 'foolscaplaw11.WindowBounded'. -/
def windowBoundedUptoCard : Claim7 := { stood := { row := windowBoundedUptoRow, standIns := [], harness := (true, "59c159fc9ec085752ecb78fadd5e26bc10f56acd6f20a59ae173fbba1490eb7c"), looks := false }, kinds := [], alts := [], laidByText := true, laidKinds := [.data, .data, .data], laidTests := true, laidLooks := .later }
def WindowBoundedUptoCardSaid : Prop := Claim7.holds Tryd.pinned (.plain (OpenSpec.upto windowBoundedSpec)) windowBoundedUptoCard
end Rows
end Go.Proofs.YtclogekfdmikpaaDoor
