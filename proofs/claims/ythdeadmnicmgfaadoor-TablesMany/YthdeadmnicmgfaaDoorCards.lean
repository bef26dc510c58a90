/-
  DERIVED. GIVEN WITH THE SEED: THE CARDS: each row of YthdeadmnicmgfaaDoorRows.lean that lists a variable, with what it lists TIED to the program's text (the seventh form; the later family's looks); each row that meets fmt, with fmt's text TOLD by the authors' own Lean function (tested against real Go, not proved from fmt's source: count such statements apart). THE CARD IS WHAT COUNTS. Prove the row's statement (the work); the ties are given (YthdeadmnicmgfaaDoorTie.lean); close each card by the builder's one call (the guide's Derived/Test/ToyasCard.lean, 'card_holds'). Laid BY PROGRAM, IN A SANDBOX (cutbox-door.mjs). By AI agents, Wed Nov 11 2026. No macro, syntax, notation, axiom, sorry.
-/
import Derived.Test.YthdeadmnicmgfaaDoorRows
import GoSem.ClaimSeven
namespace Go.Proofs.YthdeadmnicmgfaaDoor
namespace Rows

/-- THE TIED CARD OF 'foolscaplaw08.DfaBuilds'. -/
def dfaBuildsCard : Claim7 := { stood := { row := dfaBuildsRow, standIns := [], harness := (true, "e090f8885207b622d477ec7d3c5717a179e0d457d36c8a07b071ad35bbef42e4"), looks := false }, kinds := [], alts := [], laidByText := true, laidKinds := [.data, .data, .data], laidTests := true, laidLooks := .later }
def DfaBuildsCardSaid : Prop := Claim7.holds Tryd.pinned (.plain (OpenSpec.ofChange dfaBuildsSpec)) dfaBuildsCard

/-- THE TIED CARD OF 'foolscaplaw09.TablesCompile'. -/
def tablesCompileCard : Claim7 := { stood := { row := tablesCompileRow, standIns := [], harness := (true, "e090f8885207b622d477ec7d3c5717a179e0d457d36c8a07b071ad35bbef42e4"), looks := false }, kinds := [], alts := [], laidByText := true, laidKinds := [.data, .data, .data], laidTests := true, laidLooks := .later }
def TablesCompileCardSaid : Prop := Claim7.holds Tryd.pinned (.plain (OpenSpec.ofChange tablesCompileSpec)) tablesCompileCard

/-- THE TIED CARD OF 'foolscaplaw09.TablesDecide'. -/
def tablesDecideCard : Claim7 := { stood := { row := tablesDecideRow, standIns := [], harness := (true, "e090f8885207b622d477ec7d3c5717a179e0d457d36c8a07b071ad35bbef42e4"), looks := false }, kinds := [], alts := [], laidByText := true, laidKinds := [.data, .data, .data], laidTests := true, laidLooks := .later }
def TablesDecideCardSaid : Prop := Claim7.holds Tryd.pinned (.plain (OpenSpec.ofChange tablesDecideSpec)) tablesDecideCard

/-- THE TIED CARD OF 'foolscaplaw09.TablesTell'. -/
def tablesTellCard : Claim7 := { stood := { row := tablesTellRow, standIns := [], harness := (true, "e090f8885207b622d477ec7d3c5717a179e0d457d36c8a07b071ad35bbef42e4"), looks := false }, kinds := [], alts := [], laidByText := true, laidKinds := [.data, .data, .data], laidTests := true, laidLooks := .later }
def TablesTellCardSaid : Prop := Claim7.holds Tryd.pinned (.plain (OpenSpec.ofChange tablesTellSpec)) tablesTellCard

/-- THE TIED CARD OF 'foolscaplaw09.TablesMany'. -/
def tablesManyCard : Claim7 := { stood := { row := tablesManyRow, standIns := [], harness := (true, "e090f8885207b622d477ec7d3c5717a179e0d457d36c8a07b071ad35bbef42e4"), looks := false }, kinds := [], alts := [], laidByText := true, laidKinds := [.data, .data, .data], laidTests := true, laidLooks := .later }
def TablesManyCardSaid : Prop := Claim7.holds Tryd.pinned (.plain (OpenSpec.ofChange tablesManySpec)) tablesManyCard

/-- THE TIED CARD OF 'foolscaplaw09.TablesNames'. -/
def tablesNamesCard : Claim7 := { stood := { row := tablesNamesRow, standIns := [], harness := (true, "e090f8885207b622d477ec7d3c5717a179e0d457d36c8a07b071ad35bbef42e4"), looks := false }, kinds := [], alts := [], laidByText := true, laidKinds := [.data, .data, .data], laidTests := true, laidLooks := .later }
def TablesNamesCardSaid : Prop := Claim7.holds Tryd.pinned (.plain (OpenSpec.ofChange tablesNamesSpec)) tablesNamesCard

/-- THE TIED CARD OF 'foolscaplaw09.TablesSwap'. -/
def tablesSwapCard : Claim7 := { stood := { row := tablesSwapRow, standIns := [], harness := (true, "e090f8885207b622d477ec7d3c5717a179e0d457d36c8a07b071ad35bbef42e4"), looks := false }, kinds := [], alts := [], laidByText := true, laidKinds := [.data, .data, .data], laidTests := true, laidLooks := .later }
def TablesSwapCardSaid : Prop := Claim7.holds Tryd.pinned (.plain (OpenSpec.ofChange tablesSwapSpec)) tablesSwapCard

/-- THE SECOND FORM's CARD OF 'foolscaplaw08.DfaBuilds'. -/
def dfaBuildsUptoCard : Claim7 := { stood := { row := dfaBuildsUptoRow, standIns := [], harness := (true, "e090f8885207b622d477ec7d3c5717a179e0d457d36c8a07b071ad35bbef42e4"), looks := false }, kinds := [], alts := [], laidByText := true, laidKinds := [.data, .data, .data], laidTests := true, laidLooks := .later }
def DfaBuildsUptoCardSaid : Prop := Claim7.holds Tryd.pinned (.plain (OpenSpec.upto dfaBuildsSpec)) dfaBuildsUptoCard

/-- THE SECOND FORM's CARD OF 'foolscaplaw09.TablesCompile'. -/
def tablesCompileUptoCard : Claim7 := { stood := { row := tablesCompileUptoRow, standIns := [], harness := (true, "e090f8885207b622d477ec7d3c5717a179e0d457d36c8a07b071ad35bbef42e4"), looks := false }, kinds := [], alts := [], laidByText := true, laidKinds := [.data, .data, .data], laidTests := true, laidLooks := .later }
def TablesCompileUptoCardSaid : Prop := Claim7.holds Tryd.pinned (.plain (OpenSpec.upto tablesCompileSpec)) tablesCompileUptoCard

/-- THE SECOND FORM's CARD OF 'foolscaplaw09.TablesDecide'. -/
def tablesDecideUptoCard : Claim7 := { stood := { row := tablesDecideUptoRow, standIns := [], harness := (true, "e090f8885207b622d477ec7d3c5717a179e0d457d36c8a07b071ad35bbef42e4"), looks := false }, kinds := [], alts := [], laidByText := true, laidKinds := [.data, .data, .data], laidTests := true, laidLooks := .later }
def TablesDecideUptoCardSaid : Prop := Claim7.holds Tryd.pinned (.plain (OpenSpec.upto tablesDecideSpec)) tablesDecideUptoCard

/-- THE SECOND FORM's CARD OF 'foolscaplaw09.TablesTell'. -/
def tablesTellUptoCard : Claim7 := { stood := { row := tablesTellUptoRow, standIns := [], harness := (true, "e090f8885207b622d477ec7d3c5717a179e0d457d36c8a07b071ad35bbef42e4"), looks := false }, kinds := [], alts := [], laidByText := true, laidKinds := [.data, .data, .data], laidTests := true, laidLooks := .later }
def TablesTellUptoCardSaid : Prop := Claim7.holds Tryd.pinned (.plain (OpenSpec.upto tablesTellSpec)) tablesTellUptoCard

/-- THE SECOND FORM's CARD OF 'foolscaplaw09.TablesMany'. -/
def tablesManyUptoCard : Claim7 := { stood := { row := tablesManyUptoRow, standIns := [], harness := (true, "e090f8885207b622d477ec7d3c5717a179e0d457d36c8a07b071ad35bbef42e4"), looks := false }, kinds := [], alts := [], laidByText := true, laidKinds := [.data, .data, .data], laidTests := true, laidLooks := .later }
def TablesManyUptoCardSaid : Prop := Claim7.holds Tryd.pinned (.plain (OpenSpec.upto tablesManySpec)) tablesManyUptoCard

/-- THE SECOND FORM's CARD OF 'foolscaplaw09.TablesNames'. -/
def tablesNamesUptoCard : Claim7 := { stood := { row := tablesNamesUptoRow, standIns := [], harness := (true, "e090f8885207b622d477ec7d3c5717a179e0d457d36c8a07b071ad35bbef42e4"), looks := false }, kinds := [], alts := [], laidByText := true, laidKinds := [.data, .data, .data], laidTests := true, laidLooks := .later }
def TablesNamesUptoCardSaid : Prop := Claim7.holds Tryd.pinned (.plain (OpenSpec.upto tablesNamesSpec)) tablesNamesUptoCard

/-- THE SECOND FORM's CARD OF 'foolscaplaw09.TablesSwap'. -/
def tablesSwapUptoCard : Claim7 := { stood := { row := tablesSwapUptoRow, standIns := [], harness := (true, "e090f8885207b622d477ec7d3c5717a179e0d457d36c8a07b071ad35bbef42e4"), looks := false }, kinds := [], alts := [], laidByText := true, laidKinds := [.data, .data, .data], laidTests := true, laidLooks := .later }
def TablesSwapUptoCardSaid : Prop := Claim7.holds Tryd.pinned (.plain (OpenSpec.upto tablesSwapSpec)) tablesSwapUptoCard
end Rows
end Go.Proofs.YthdeadmnicmgfaaDoor
