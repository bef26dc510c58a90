/-
  DERIVED. GIVEN WITH THE SEED: THE CARDS: each row of YtchdklbekfdgdaaGreatDoorRows.lean that lists a variable, with what it lists TIED to the program's text (the seventh form; the later family's looks); each row that meets fmt, with fmt's text TOLD by the authors' own Lean function (tested against real Go, not proved from fmt's source: count such statements apart). THE CARD IS WHAT COUNTS. Prove the row's statement (the work); the ties are given (YtchdklbekfdgdaaGreatDoorTie.lean); close each card by the builder's one call (the guide's Derived/Test/ToyasCard.lean, 'card_holds'). Laid BY PROGRAM, IN A SANDBOX (cutbox-door.mjs). By AI agents, Wed Nov 11 2026. No macro, syntax, notation, axiom, sorry.
-/
import Derived.Test.YtchdklbekfdgdaaGreatDoorRows
import GoSem.ClaimSeven
namespace Go.Proofs.YtchdklbekfdgdaaGreatDoor
namespace Rows

/-- THE TIED CARD OF 'foolscaplaw04.PropsParses'. -/
def propsParsesCard : Claim7 := { stood := { row := propsParsesRow, standIns := [], harness := (true, "e3fe7487fd677d5d078350c95b8cef64895efec9637aad2287919b66bf790f7d"), looks := true }, kinds := [], alts := [], laidByText := true, laidKinds := [.data, .handle, .pinned], laidTests := true, laidLooks := .later }
def PropsParsesCardSaid : Prop := Claim7.holds Tryz.pinned (.plain (OpenSpec.ofChange propsParsesSpec)) propsParsesCard

/-- THE TIED CARD OF 'foolscaplaw04.PropsBack'. -/
def propsBackCard : Claim7 := { stood := { row := propsBackRow, standIns := [], harness := (true, "e3fe7487fd677d5d078350c95b8cef64895efec9637aad2287919b66bf790f7d"), looks := true }, kinds := [], alts := [], laidByText := true, laidKinds := [.data, .handle, .pinned], laidTests := true, laidLooks := .later }
def PropsBackCardSaid : Prop := Claim7.holds Tryz.pinned (.plain (OpenSpec.ofChange propsBackSpec)) propsBackCard

/-- THE TIED CARD OF 'foolscaplaw04.PropsFirst'. -/
def propsFirstCard : Claim7 := { stood := { row := propsFirstRow, standIns := [], harness := (true, "e3fe7487fd677d5d078350c95b8cef64895efec9637aad2287919b66bf790f7d"), looks := true }, kinds := [], alts := [], laidByText := true, laidKinds := [.data, .handle, .pinned], laidTests := true, laidLooks := .later }
def PropsFirstCardSaid : Prop := Claim7.holds Tryz.pinned (.plain (OpenSpec.ofChange propsFirstSpec)) propsFirstCard

/-- THE TIED CARD OF 'foolscaplaw04.PropsTables'. -/
def propsTablesCard : Claim7 := { stood := { row := propsTablesRow, standIns := [], harness := (true, "e3fe7487fd677d5d078350c95b8cef64895efec9637aad2287919b66bf790f7d"), looks := true }, kinds := [], alts := [], laidByText := true, laidKinds := [.data, .handle, .pinned], laidTests := true, laidLooks := .later }
def PropsTablesCardSaid : Prop := Claim7.holds Tryz.pinned (.plain (OpenSpec.ofChange propsTablesSpec)) propsTablesCard

/-- THE TIED CARD OF 'foolscaplaw04.PropsOne'. -/
def propsOneCard : Claim7 := { stood := { row := propsOneRow, standIns := [], harness := (true, "e3fe7487fd677d5d078350c95b8cef64895efec9637aad2287919b66bf790f7d"), looks := true }, kinds := [], alts := [], laidByText := true, laidKinds := [.data, .handle, .pinned], laidTests := true, laidLooks := .later }
def PropsOneCardSaid : Prop := Claim7.holds Tryz.pinned (.plain (OpenSpec.ofChange propsOneSpec)) propsOneCard

/-- THE TIED CARD OF 'foolscaplaw04.PropsNotes'. -/
def propsNotesCard : Claim7 := { stood := { row := propsNotesRow, standIns := [], harness := (true, "e3fe7487fd677d5d078350c95b8cef64895efec9637aad2287919b66bf790f7d"), looks := true }, kinds := [], alts := [], laidByText := true, laidKinds := [.data, .handle, .pinned], laidTests := true, laidLooks := .later }
def PropsNotesCardSaid : Prop := Claim7.holds Tryz.pinned (.plain (OpenSpec.ofChange propsNotesSpec)) propsNotesCard

/-- THE SECOND FORM's CARD OF 'foolscaplaw04.PropsParses'. -/
def propsParsesUptoCard : Claim7 := { stood := { row := propsParsesUptoRow, standIns := [], harness := (true, "e3fe7487fd677d5d078350c95b8cef64895efec9637aad2287919b66bf790f7d"), looks := true }, kinds := [], alts := [], laidByText := true, laidKinds := [.data, .handle, .pinned], laidTests := true, laidLooks := .later }
def PropsParsesUptoCardSaid : Prop := Claim7.holds Tryz.pinned (.plain (OpenSpec.upto propsParsesSpec)) propsParsesUptoCard

/-- THE SECOND FORM's CARD OF 'foolscaplaw04.PropsBack'. -/
def propsBackUptoCard : Claim7 := { stood := { row := propsBackUptoRow, standIns := [], harness := (true, "e3fe7487fd677d5d078350c95b8cef64895efec9637aad2287919b66bf790f7d"), looks := true }, kinds := [], alts := [], laidByText := true, laidKinds := [.data, .handle, .pinned], laidTests := true, laidLooks := .later }
def PropsBackUptoCardSaid : Prop := Claim7.holds Tryz.pinned (.plain (OpenSpec.upto propsBackSpec)) propsBackUptoCard

/-- THE SECOND FORM's CARD OF 'foolscaplaw04.PropsFirst'. -/
def propsFirstUptoCard : Claim7 := { stood := { row := propsFirstUptoRow, standIns := [], harness := (true, "e3fe7487fd677d5d078350c95b8cef64895efec9637aad2287919b66bf790f7d"), looks := true }, kinds := [], alts := [], laidByText := true, laidKinds := [.data, .handle, .pinned], laidTests := true, laidLooks := .later }
def PropsFirstUptoCardSaid : Prop := Claim7.holds Tryz.pinned (.plain (OpenSpec.upto propsFirstSpec)) propsFirstUptoCard

/-- THE SECOND FORM's CARD OF 'foolscaplaw04.PropsTables'. -/
def propsTablesUptoCard : Claim7 := { stood := { row := propsTablesUptoRow, standIns := [], harness := (true, "e3fe7487fd677d5d078350c95b8cef64895efec9637aad2287919b66bf790f7d"), looks := true }, kinds := [], alts := [], laidByText := true, laidKinds := [.data, .handle, .pinned], laidTests := true, laidLooks := .later }
def PropsTablesUptoCardSaid : Prop := Claim7.holds Tryz.pinned (.plain (OpenSpec.upto propsTablesSpec)) propsTablesUptoCard

/-- THE SECOND FORM's CARD OF 'foolscaplaw04.PropsOne'. -/
def propsOneUptoCard : Claim7 := { stood := { row := propsOneUptoRow, standIns := [], harness := (true, "e3fe7487fd677d5d078350c95b8cef64895efec9637aad2287919b66bf790f7d"), looks := true }, kinds := [], alts := [], laidByText := true, laidKinds := [.data, .handle, .pinned], laidTests := true, laidLooks := .later }
def PropsOneUptoCardSaid : Prop := Claim7.holds Tryz.pinned (.plain (OpenSpec.upto propsOneSpec)) propsOneUptoCard

/-- THE SECOND FORM's CARD OF 'foolscaplaw04.PropsNotes'. -/
def propsNotesUptoCard : Claim7 := { stood := { row := propsNotesUptoRow, standIns := [], harness := (true, "e3fe7487fd677d5d078350c95b8cef64895efec9637aad2287919b66bf790f7d"), looks := true }, kinds := [], alts := [], laidByText := true, laidKinds := [.data, .handle, .pinned], laidTests := true, laidLooks := .later }
def PropsNotesUptoCardSaid : Prop := Claim7.holds Tryz.pinned (.plain (OpenSpec.upto propsNotesSpec)) propsNotesUptoCard
end Rows
end Go.Proofs.YtchdklbekfdgdaaGreatDoor
