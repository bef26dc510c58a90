/-
  DERIVED. GIVEN WITH THE SEED: THE CARDS: each row of YtcafffohnokjgaaDoorRows.lean that lists a variable, with what it lists TIED to the program's text (the seventh form; the later family's looks); each row that meets fmt, with fmt's text TOLD by the authors' own Lean function (tested against real Go, not proved from fmt's source: count such statements apart). THE CARD IS WHAT COUNTS. Prove the row's statement (the work); the ties are given (YtcafffohnokjgaaDoorTie.lean); close each card by the builder's one call (the guide's Derived/Test/ToyasCard.lean, 'card_holds'). Laid BY PROGRAM, IN A SANDBOX (cutbox-door.mjs). By AI agents, Wed Nov 11 2026. No macro, syntax, notation, axiom, sorry.
-/
import Derived.Test.YtcafffohnokjgaaDoorRows
import GoSem.ClaimSeven
namespace Go.Proofs.YtcafffohnokjgaaDoor
namespace Rows

/-- THE TIED CARD OF 'foolscaplaw10.SegSteps'. -/
def segStepsCard : Claim7 := { stood := { row := segStepsRow, standIns := [], harness := (true, "dddaf40b74046cfd49247b957468e5a1414d17c2b94a991ad65898a135911b27"), looks := false }, kinds := [], alts := [], laidByText := true, laidKinds := [.data, .data, .data], laidTests := true, laidLooks := .later }
def SegStepsCardSaid : Prop := Claim7.holds Tryd.pinned (.plain (OpenSpec.ofChange segStepsSpec)) segStepsCard

/-- THE TIED CARD OF 'foolscaplaw10.SegWalks'. -/
def segWalksCard : Claim7 := { stood := { row := segWalksRow, standIns := [], harness := (true, "dddaf40b74046cfd49247b957468e5a1414d17c2b94a991ad65898a135911b27"), looks := false }, kinds := [], alts := [], laidByText := true, laidKinds := [.data, .data, .data], laidTests := true, laidLooks := .later }
def SegWalksCardSaid : Prop := Claim7.holds Tryd.pinned (.plain (OpenSpec.ofChange segWalksSpec)) segWalksCard

/-- THE TIED CARD OF 'foolscaplaw10.SegFirst'. -/
def segFirstCard : Claim7 := { stood := { row := segFirstRow, standIns := [], harness := (true, "dddaf40b74046cfd49247b957468e5a1414d17c2b94a991ad65898a135911b27"), looks := false }, kinds := [], alts := [], laidByText := true, laidKinds := [.data, .data, .data], laidTests := true, laidLooks := .later }
def SegFirstCardSaid : Prop := Claim7.holds Tryd.pinned (.plain (OpenSpec.ofChange segFirstSpec)) segFirstCard

/-- THE TIED CARD OF 'foolscaplaw10.SegMirror'. -/
def segMirrorCard : Claim7 := { stood := { row := segMirrorRow, standIns := [], harness := (true, "dddaf40b74046cfd49247b957468e5a1414d17c2b94a991ad65898a135911b27"), looks := false }, kinds := [], alts := [], laidByText := true, laidKinds := [.data, .data, .data], laidTests := true, laidLooks := .later }
def SegMirrorCardSaid : Prop := Claim7.holds Tryd.pinned (.plain (OpenSpec.ofChange segMirrorSpec)) segMirrorCard

/-- THE TIED CARD OF 'foolscaplaw10.SegAll'. -/
def segAllCard : Claim7 := { stood := { row := segAllRow, standIns := [], harness := (true, "dddaf40b74046cfd49247b957468e5a1414d17c2b94a991ad65898a135911b27"), looks := false }, kinds := [], alts := [], laidByText := true, laidKinds := [.data, .data, .data], laidTests := true, laidLooks := .later }
def SegAllCardSaid : Prop := Claim7.holds Tryd.pinned (.plain (OpenSpec.ofChange segAllSpec)) segAllCard

/-- THE TIED CARD OF 'foolscaplaw10.SegNeighbours'. -/
def segNeighboursCard : Claim7 := { stood := { row := segNeighboursRow, standIns := [], harness := (true, "dddaf40b74046cfd49247b957468e5a1414d17c2b94a991ad65898a135911b27"), looks := false }, kinds := [], alts := [], laidByText := true, laidKinds := [.data, .data, .data], laidTests := true, laidLooks := .later }
def SegNeighboursCardSaid : Prop := Claim7.holds Tryd.pinned (.plain (OpenSpec.ofChange segNeighboursSpec)) segNeighboursCard

/-- THE TIED CARD OF 'foolscaplaw10.SegRenamed'. -/
def segRenamedCard : Claim7 := { stood := { row := segRenamedRow, standIns := [], harness := (true, "dddaf40b74046cfd49247b957468e5a1414d17c2b94a991ad65898a135911b27"), looks := false }, kinds := [], alts := [], laidByText := true, laidKinds := [.data, .data, .data], laidTests := true, laidLooks := .later }
def SegRenamedCardSaid : Prop := Claim7.holds Tryd.pinned (.plain (OpenSpec.ofChange segRenamedSpec)) segRenamedCard

/-- THE SECOND FORM's CARD OF 'foolscaplaw10.SegSteps'. -/
def segStepsUptoCard : Claim7 := { stood := { row := segStepsUptoRow, standIns := [], harness := (true, "dddaf40b74046cfd49247b957468e5a1414d17c2b94a991ad65898a135911b27"), looks := false }, kinds := [], alts := [], laidByText := true, laidKinds := [.data, .data, .data], laidTests := true, laidLooks := .later }
def SegStepsUptoCardSaid : Prop := Claim7.holds Tryd.pinned (.plain (OpenSpec.upto segStepsSpec)) segStepsUptoCard

/-- THE SECOND FORM's CARD OF 'foolscaplaw10.SegWalks'. -/
def segWalksUptoCard : Claim7 := { stood := { row := segWalksUptoRow, standIns := [], harness := (true, "dddaf40b74046cfd49247b957468e5a1414d17c2b94a991ad65898a135911b27"), looks := false }, kinds := [], alts := [], laidByText := true, laidKinds := [.data, .data, .data], laidTests := true, laidLooks := .later }
def SegWalksUptoCardSaid : Prop := Claim7.holds Tryd.pinned (.plain (OpenSpec.upto segWalksSpec)) segWalksUptoCard

/-- THE SECOND FORM's CARD OF 'foolscaplaw10.SegFirst'. -/
def segFirstUptoCard : Claim7 := { stood := { row := segFirstUptoRow, standIns := [], harness := (true, "dddaf40b74046cfd49247b957468e5a1414d17c2b94a991ad65898a135911b27"), looks := false }, kinds := [], alts := [], laidByText := true, laidKinds := [.data, .data, .data], laidTests := true, laidLooks := .later }
def SegFirstUptoCardSaid : Prop := Claim7.holds Tryd.pinned (.plain (OpenSpec.upto segFirstSpec)) segFirstUptoCard

/-- THE SECOND FORM's CARD OF 'foolscaplaw10.SegMirror'. -/
def segMirrorUptoCard : Claim7 := { stood := { row := segMirrorUptoRow, standIns := [], harness := (true, "dddaf40b74046cfd49247b957468e5a1414d17c2b94a991ad65898a135911b27"), looks := false }, kinds := [], alts := [], laidByText := true, laidKinds := [.data, .data, .data], laidTests := true, laidLooks := .later }
def SegMirrorUptoCardSaid : Prop := Claim7.holds Tryd.pinned (.plain (OpenSpec.upto segMirrorSpec)) segMirrorUptoCard

/-- THE SECOND FORM's CARD OF 'foolscaplaw10.SegAll'. -/
def segAllUptoCard : Claim7 := { stood := { row := segAllUptoRow, standIns := [], harness := (true, "dddaf40b74046cfd49247b957468e5a1414d17c2b94a991ad65898a135911b27"), looks := false }, kinds := [], alts := [], laidByText := true, laidKinds := [.data, .data, .data], laidTests := true, laidLooks := .later }
def SegAllUptoCardSaid : Prop := Claim7.holds Tryd.pinned (.plain (OpenSpec.upto segAllSpec)) segAllUptoCard

/-- THE SECOND FORM's CARD OF 'foolscaplaw10.SegNeighbours'. -/
def segNeighboursUptoCard : Claim7 := { stood := { row := segNeighboursUptoRow, standIns := [], harness := (true, "dddaf40b74046cfd49247b957468e5a1414d17c2b94a991ad65898a135911b27"), looks := false }, kinds := [], alts := [], laidByText := true, laidKinds := [.data, .data, .data], laidTests := true, laidLooks := .later }
def SegNeighboursUptoCardSaid : Prop := Claim7.holds Tryd.pinned (.plain (OpenSpec.upto segNeighboursSpec)) segNeighboursUptoCard

/-- THE SECOND FORM's CARD OF 'foolscaplaw10.SegRenamed'. -/
def segRenamedUptoCard : Claim7 := { stood := { row := segRenamedUptoRow, standIns := [], harness := (true, "dddaf40b74046cfd49247b957468e5a1414d17c2b94a991ad65898a135911b27"), looks := false }, kinds := [], alts := [], laidByText := true, laidKinds := [.data, .data, .data], laidTests := true, laidLooks := .later }
def SegRenamedUptoCardSaid : Prop := Claim7.holds Tryd.pinned (.plain (OpenSpec.upto segRenamedSpec)) segRenamedUptoCard
end Rows
end Go.Proofs.YtcafffohnokjgaaDoor
