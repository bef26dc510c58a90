/-
  DERIVED. GIVEN WITH THE SEED: THE CARDS: each row of YtlelbepfkkaojaaDoorRows.lean that lists a variable, with what it lists TIED to the program's text (the seventh form; the later family's looks); each row that meets fmt, with fmt's text TOLD by the authors' own Lean function (tested against real Go, not proved from fmt's source: count such statements apart). THE CARD IS WHAT COUNTS. Prove the row's statement (the work); the ties are given (YtlelbepfkkaojaaDoorTie.lean); close each card by the builder's one call (the guide's Derived/Test/ToyasCard.lean, 'card_holds'). Laid BY PROGRAM, IN A SANDBOX (cutbox-door.mjs). By AI agents, Wed Nov 11 2026. No macro, syntax, notation, axiom, sorry.
-/
import Derived.Test.YtlelbepfkkaojaaDoorRows
import GoSem.ClaimSeven
namespace Go.Proofs.YtlelbepfkkaojaaDoor
namespace Rows

/-- THE TIED CARD OF 'foolscaplaw14.RgaPlaces'. -/
def rgaPlacesCard : Claim7 := { stood := { row := rgaPlacesRow, standIns := [], harness := (true, "ed33bee2251a07929047c636950ee15c431e4f64398825789bd1b7c1646179bb"), looks := false }, kinds := [], alts := [], laidByText := true, laidKinds := [.data], laidTests := true, laidLooks := .later }
def RgaPlacesCardSaid : Prop := Claim7.holds Tryd.pinned (.plain (OpenSpec.ofChange rgaPlacesSpec)) rgaPlacesCard

/-- THE SECOND FORM's CARD OF 'foolscaplaw14.RgaPlaces'. -/
def rgaPlacesUptoCard : Claim7 := { stood := { row := rgaPlacesUptoRow, standIns := [], harness := (true, "ed33bee2251a07929047c636950ee15c431e4f64398825789bd1b7c1646179bb"), looks := false }, kinds := [], alts := [], laidByText := true, laidKinds := [.data], laidTests := true, laidLooks := .later }
def RgaPlacesUptoCardSaid : Prop := Claim7.holds Tryd.pinned (.plain (OpenSpec.upto rgaPlacesSpec)) rgaPlacesUptoCard
end Rows
end Go.Proofs.YtlelbepfkkaojaaDoor
