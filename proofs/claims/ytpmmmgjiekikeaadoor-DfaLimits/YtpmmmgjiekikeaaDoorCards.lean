/-
  DERIVED. GIVEN WITH THE SEED: THE CARDS: each row of YtpmmmgjiekikeaaDoorRows.lean that lists a variable, with what it lists TIED to the program's text (the seventh form; the later family's looks); each row that meets fmt, with fmt's text TOLD by the authors' own Lean function (tested against real Go, not proved from fmt's source: count such statements apart). THE CARD IS WHAT COUNTS. Prove the row's statement (the work); the ties are given (YtpmmmgjiekikeaaDoorTie.lean); close each card by the builder's one call (the guide's Derived/Test/ToyasCard.lean, 'card_holds'). Laid BY PROGRAM, IN A SANDBOX (cutbox-door.mjs). By AI agents, Wed Nov 11 2026. No macro, syntax, notation, axiom, sorry.
-/
import Derived.Test.YtpmmmgjiekikeaaDoorRows
import GoSem.ClaimSeven
namespace Go.Proofs.YtpmmmgjiekikeaaDoor
namespace Rows

/-- THE TIED CARD OF 'foolscaplaw08.DfaBuilds'. -/
def dfaBuildsCard : Claim7 := { stood := { row := dfaBuildsRow, standIns := [], harness := (true, "dbeba2e2c3d16e02fd34533751ff2ba5f4964a49c7e58e577773e9262d012d72"), looks := false }, kinds := [], alts := [], laidByText := true, laidKinds := [.data, .data, .data], laidTests := true, laidLooks := .later }
def DfaBuildsCardSaid : Prop := Claim7.holds Tryd.pinned (.plain (OpenSpec.ofChange dfaBuildsSpec)) dfaBuildsCard

/-- THE TIED CARD OF 'foolscaplaw08.DfaRuns'. -/
def dfaRunsCard : Claim7 := { stood := { row := dfaRunsRow, standIns := [], harness := (true, "dbeba2e2c3d16e02fd34533751ff2ba5f4964a49c7e58e577773e9262d012d72"), looks := false }, kinds := [], alts := [], laidByText := true, laidKinds := [.data, .data, .data], laidTests := true, laidLooks := .later }
def DfaRunsCardSaid : Prop := Claim7.holds Tryd.pinned (.plain (OpenSpec.ofChange dfaRunsSpec)) dfaRunsCard

/-- THE TIED CARD OF 'foolscaplaw08.DfaLeast'. -/
def dfaLeastCard : Claim7 := { stood := { row := dfaLeastRow, standIns := [], harness := (true, "dbeba2e2c3d16e02fd34533751ff2ba5f4964a49c7e58e577773e9262d012d72"), looks := false }, kinds := [], alts := [], laidByText := true, laidKinds := [.data, .data, .data], laidTests := true, laidLooks := .later }
def DfaLeastCardSaid : Prop := Claim7.holds Tryd.pinned (.plain (OpenSpec.ofChange dfaLeastSpec)) dfaLeastCard

/-- THE TIED CARD OF 'foolscaplaw08.DfaEqual'. -/
def dfaEqualCard : Claim7 := { stood := { row := dfaEqualRow, standIns := [], harness := (true, "dbeba2e2c3d16e02fd34533751ff2ba5f4964a49c7e58e577773e9262d012d72"), looks := false }, kinds := [], alts := [], laidByText := true, laidKinds := [.data, .data, .data], laidTests := true, laidLooks := .later }
def DfaEqualCardSaid : Prop := Claim7.holds Tryd.pinned (.plain (OpenSpec.ofChange dfaEqualSpec)) dfaEqualCard

/-- THE TIED CARD OF 'foolscaplaw08.DfaLimits'. -/
def dfaLimitsCard : Claim7 := { stood := { row := dfaLimitsRow, standIns := [], harness := (true, "dbeba2e2c3d16e02fd34533751ff2ba5f4964a49c7e58e577773e9262d012d72"), looks := false }, kinds := [], alts := [], laidByText := true, laidKinds := [.data, .data, .data], laidTests := true, laidLooks := .later }
def DfaLimitsCardSaid : Prop := Claim7.holds Tryd.pinned (.plain (OpenSpec.ofChange dfaLimitsSpec)) dfaLimitsCard

/-- THE TIED CARD OF 'foolscaplaw08.DfaTurns'. -/
def dfaTurnsCard : Claim7 := { stood := { row := dfaTurnsRow, standIns := [], harness := (true, "dbeba2e2c3d16e02fd34533751ff2ba5f4964a49c7e58e577773e9262d012d72"), looks := false }, kinds := [], alts := [], laidByText := true, laidKinds := [.data, .data, .data], laidTests := true, laidLooks := .later }
def DfaTurnsCardSaid : Prop := Claim7.holds Tryd.pinned (.plain (OpenSpec.ofChange dfaTurnsSpec)) dfaTurnsCard

/-- THE TIED CARD OF 'foolscaplaw08.DfaEither'. -/
def dfaEitherCard : Claim7 := { stood := { row := dfaEitherRow, standIns := [], harness := (true, "dbeba2e2c3d16e02fd34533751ff2ba5f4964a49c7e58e577773e9262d012d72"), looks := false }, kinds := [], alts := [], laidByText := true, laidKinds := [.data, .data, .data], laidTests := true, laidLooks := .later }
def DfaEitherCardSaid : Prop := Claim7.holds Tryd.pinned (.plain (OpenSpec.ofChange dfaEitherSpec)) dfaEitherCard

/-- THE TIED CARD OF 'foolscaplaw08.DfaBeginnings'. -/
def dfaBeginningsCard : Claim7 := { stood := { row := dfaBeginningsRow, standIns := [], harness := (true, "dbeba2e2c3d16e02fd34533751ff2ba5f4964a49c7e58e577773e9262d012d72"), looks := false }, kinds := [], alts := [], laidByText := true, laidKinds := [.data, .data, .data], laidTests := true, laidLooks := .later }
def DfaBeginningsCardSaid : Prop := Claim7.holds Tryd.pinned (.plain (OpenSpec.ofChange dfaBeginningsSpec)) dfaBeginningsCard

/-- THE TIED CARD OF 'foolscaplaw08.DfaMore'. -/
def dfaMoreCard : Claim7 := { stood := { row := dfaMoreRow, standIns := [], harness := (true, "dbeba2e2c3d16e02fd34533751ff2ba5f4964a49c7e58e577773e9262d012d72"), looks := false }, kinds := [], alts := [], laidByText := true, laidKinds := [.data, .data, .data], laidTests := true, laidLooks := .later }
def DfaMoreCardSaid : Prop := Claim7.holds Tryd.pinned (.plain (OpenSpec.ofChange dfaMoreSpec)) dfaMoreCard

/-- THE SECOND FORM's CARD OF 'foolscaplaw08.DfaBuilds'. -/
def dfaBuildsUptoCard : Claim7 := { stood := { row := dfaBuildsUptoRow, standIns := [], harness := (true, "dbeba2e2c3d16e02fd34533751ff2ba5f4964a49c7e58e577773e9262d012d72"), looks := false }, kinds := [], alts := [], laidByText := true, laidKinds := [.data, .data, .data], laidTests := true, laidLooks := .later }
def DfaBuildsUptoCardSaid : Prop := Claim7.holds Tryd.pinned (.plain (OpenSpec.upto dfaBuildsSpec)) dfaBuildsUptoCard

/-- THE SECOND FORM's CARD OF 'foolscaplaw08.DfaRuns'. -/
def dfaRunsUptoCard : Claim7 := { stood := { row := dfaRunsUptoRow, standIns := [], harness := (true, "dbeba2e2c3d16e02fd34533751ff2ba5f4964a49c7e58e577773e9262d012d72"), looks := false }, kinds := [], alts := [], laidByText := true, laidKinds := [.data, .data, .data], laidTests := true, laidLooks := .later }
def DfaRunsUptoCardSaid : Prop := Claim7.holds Tryd.pinned (.plain (OpenSpec.upto dfaRunsSpec)) dfaRunsUptoCard

/-- THE SECOND FORM's CARD OF 'foolscaplaw08.DfaLeast'. -/
def dfaLeastUptoCard : Claim7 := { stood := { row := dfaLeastUptoRow, standIns := [], harness := (true, "dbeba2e2c3d16e02fd34533751ff2ba5f4964a49c7e58e577773e9262d012d72"), looks := false }, kinds := [], alts := [], laidByText := true, laidKinds := [.data, .data, .data], laidTests := true, laidLooks := .later }
def DfaLeastUptoCardSaid : Prop := Claim7.holds Tryd.pinned (.plain (OpenSpec.upto dfaLeastSpec)) dfaLeastUptoCard

/-- THE SECOND FORM's CARD OF 'foolscaplaw08.DfaEqual'. -/
def dfaEqualUptoCard : Claim7 := { stood := { row := dfaEqualUptoRow, standIns := [], harness := (true, "dbeba2e2c3d16e02fd34533751ff2ba5f4964a49c7e58e577773e9262d012d72"), looks := false }, kinds := [], alts := [], laidByText := true, laidKinds := [.data, .data, .data], laidTests := true, laidLooks := .later }
def DfaEqualUptoCardSaid : Prop := Claim7.holds Tryd.pinned (.plain (OpenSpec.upto dfaEqualSpec)) dfaEqualUptoCard

/-- THE SECOND FORM's CARD OF 'foolscaplaw08.DfaLimits'. -/
def dfaLimitsUptoCard : Claim7 := { stood := { row := dfaLimitsUptoRow, standIns := [], harness := (true, "dbeba2e2c3d16e02fd34533751ff2ba5f4964a49c7e58e577773e9262d012d72"), looks := false }, kinds := [], alts := [], laidByText := true, laidKinds := [.data, .data, .data], laidTests := true, laidLooks := .later }
def DfaLimitsUptoCardSaid : Prop := Claim7.holds Tryd.pinned (.plain (OpenSpec.upto dfaLimitsSpec)) dfaLimitsUptoCard

/-- THE SECOND FORM's CARD OF 'foolscaplaw08.DfaTurns'. -/
def dfaTurnsUptoCard : Claim7 := { stood := { row := dfaTurnsUptoRow, standIns := [], harness := (true, "dbeba2e2c3d16e02fd34533751ff2ba5f4964a49c7e58e577773e9262d012d72"), looks := false }, kinds := [], alts := [], laidByText := true, laidKinds := [.data, .data, .data], laidTests := true, laidLooks := .later }
def DfaTurnsUptoCardSaid : Prop := Claim7.holds Tryd.pinned (.plain (OpenSpec.upto dfaTurnsSpec)) dfaTurnsUptoCard

/-- THE SECOND FORM's CARD OF 'foolscaplaw08.DfaEither'. -/
def dfaEitherUptoCard : Claim7 := { stood := { row := dfaEitherUptoRow, standIns := [], harness := (true, "dbeba2e2c3d16e02fd34533751ff2ba5f4964a49c7e58e577773e9262d012d72"), looks := false }, kinds := [], alts := [], laidByText := true, laidKinds := [.data, .data, .data], laidTests := true, laidLooks := .later }
def DfaEitherUptoCardSaid : Prop := Claim7.holds Tryd.pinned (.plain (OpenSpec.upto dfaEitherSpec)) dfaEitherUptoCard

/-- THE SECOND FORM's CARD OF 'foolscaplaw08.DfaBeginnings'. -/
def dfaBeginningsUptoCard : Claim7 := { stood := { row := dfaBeginningsUptoRow, standIns := [], harness := (true, "dbeba2e2c3d16e02fd34533751ff2ba5f4964a49c7e58e577773e9262d012d72"), looks := false }, kinds := [], alts := [], laidByText := true, laidKinds := [.data, .data, .data], laidTests := true, laidLooks := .later }
def DfaBeginningsUptoCardSaid : Prop := Claim7.holds Tryd.pinned (.plain (OpenSpec.upto dfaBeginningsSpec)) dfaBeginningsUptoCard

/-- THE SECOND FORM's CARD OF 'foolscaplaw08.DfaMore'. -/
def dfaMoreUptoCard : Claim7 := { stood := { row := dfaMoreUptoRow, standIns := [], harness := (true, "dbeba2e2c3d16e02fd34533751ff2ba5f4964a49c7e58e577773e9262d012d72"), looks := false }, kinds := [], alts := [], laidByText := true, laidKinds := [.data, .data, .data], laidTests := true, laidLooks := .later }
def DfaMoreUptoCardSaid : Prop := Claim7.holds Tryd.pinned (.plain (OpenSpec.upto dfaMoreSpec)) dfaMoreUptoCard
end Rows
end Go.Proofs.YtpmmmgjiekikeaaDoor
