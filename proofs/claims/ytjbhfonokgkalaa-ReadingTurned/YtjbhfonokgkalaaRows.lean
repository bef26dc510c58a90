/-
  NARROWER THAN 'FOR EVERY INPUT', by the rows' own cells (each row's printed sentence says how): ReadingTells: loops · ReadingStart: loops · ReadingTurned: loops · ReadingLeft: loops · NfaRights: loops · NfaMatches: loops.
  DERIVED. THE GIVEN ROWS OF THIS SEAT. 6 by the template 'for every input the law returns true; each argument reads behind the call as it read before'; 0 by the template 'total and deterministic' (their statements: YtjbhfonokgkalaaTotals.lean).
  GIVEN WITH THE SEED: the statements are not yours to turn. If you find one false, say at which input.
  Laid BY PROGRAM, IN A SANDBOX (cutbox-rows.mjs): the forced cells as the released guide's own fill.sh prints them over the translation 70c27df2fd7c8e98… (all of the seat's roots in one cut). By AI agents, Wed Nov 11 2026. No macro, syntax, notation, axiom, sorry.
-/
import Derived.Test.YtjbhfonokgkalaaChecked
import GoSem.Claim
import GoSem.ClaimJoined
import GoSem.ClaimMapViews
import Derived.JoinedTies
import Derived.KernelRfl
namespace Go.Proofs.Ytjbhfonokgkalaa
/- THE CELL 'sum', in the pinned program and in every row, IS THE sha256 OF THE DUMP (.gsa) THAT YtjbhfonokgkalaaProg.lean LOADS. Nothing in Lean hashes anything: it is a label: what it is worth is what the hold of that sum in a sandbox is worth. -/
noncomputable def Try.pinned : Pinned := { name := "ytjbhfonokgkalaa", sum := "70c27df2fd7c8e98878c267ce301de63091538468363fc8bfd6d076cf6e3bb27", checked := Try.checked }
namespace Rows
def none {H : Type} : Left H := { results := [], args := [] }

/-- 'foolscaplaw06.ReadingTells': WHATEVER THE INPUT: true; the input reads as it did. -/
def readingTellsSpec : ChangeSpec := { name := "readingTells", fn := fun _ => fun
  | [d1, d2, d3] => { results := [.lit (.bool true)], args := [d1, d2, d3] }
  | _ => none }
def readingTellsRow : OpenClaim := { program := "ytjbhfonokgkalaa", sum := "70c27df2fd7c8e98878c267ce301de63091538468363fc8bfd6d076cf6e3bb27", func := "foolscap/foolscaplaw06.ReadingTells", spec := "readingTells", unfollowed := true, recurses := true, loops := true, apart := false }
def ReadingTellsSaid : Prop := readingTellsRow.holds Try.pinned (OpenSpec.ofChange readingTellsSpec)

/-- ITS FALSE NEIGHBOUR: 'it returns false'. Refute it at one input. -/
def readingTellsWrong : ChangeSpec := { name := "readingTells", fn := fun _ => fun
  | [d1, d2, d3] => { results := [.lit (.bool false)], args := [d1, d2, d3] }
  | _ => none }
def ReadingTellsWrongFalsely : Prop := readingTellsRow.holds Try.pinned (OpenSpec.ofChange readingTellsWrong)

/-- 'foolscaplaw06.ReadingStart': WHATEVER THE INPUT: true; the input reads as it did. -/
def readingStartSpec : ChangeSpec := { name := "readingStart", fn := fun _ => fun
  | [d1, d2] => { results := [.lit (.bool true)], args := [d1, d2] }
  | _ => none }
def readingStartRow : OpenClaim := { program := "ytjbhfonokgkalaa", sum := "70c27df2fd7c8e98878c267ce301de63091538468363fc8bfd6d076cf6e3bb27", func := "foolscap/foolscaplaw06.ReadingStart", spec := "readingStart", unfollowed := true, recurses := true, loops := true, apart := false }
def ReadingStartSaid : Prop := readingStartRow.holds Try.pinned (OpenSpec.ofChange readingStartSpec)

/-- ITS FALSE NEIGHBOUR: 'it returns false'. Refute it at one input. -/
def readingStartWrong : ChangeSpec := { name := "readingStart", fn := fun _ => fun
  | [d1, d2] => { results := [.lit (.bool false)], args := [d1, d2] }
  | _ => none }
def ReadingStartWrongFalsely : Prop := readingStartRow.holds Try.pinned (OpenSpec.ofChange readingStartWrong)

/-- 'foolscaplaw06.ReadingTurned': WHATEVER THE INPUT: true; the input reads as it did. -/
def readingTurnedSpec : ChangeSpec := { name := "readingTurned", fn := fun _ => fun
  | [d1, d2] => { results := [.lit (.bool true)], args := [d1, d2] }
  | _ => none }
def readingTurnedRow : OpenClaim := { program := "ytjbhfonokgkalaa", sum := "70c27df2fd7c8e98878c267ce301de63091538468363fc8bfd6d076cf6e3bb27", func := "foolscap/foolscaplaw06.ReadingTurned", spec := "readingTurned", unfollowed := true, recurses := true, loops := true, apart := false }
def ReadingTurnedSaid : Prop := readingTurnedRow.holds Try.pinned (OpenSpec.ofChange readingTurnedSpec)

/-- ITS FALSE NEIGHBOUR: 'it returns false'. Refute it at one input. -/
def readingTurnedWrong : ChangeSpec := { name := "readingTurned", fn := fun _ => fun
  | [d1, d2] => { results := [.lit (.bool false)], args := [d1, d2] }
  | _ => none }
def ReadingTurnedWrongFalsely : Prop := readingTurnedRow.holds Try.pinned (OpenSpec.ofChange readingTurnedWrong)

/-- 'foolscaplaw06.ReadingLeft': WHATEVER THE INPUT: true; the input reads as it did. -/
def readingLeftSpec : ChangeSpec := { name := "readingLeft", fn := fun _ => fun
  | [d1, d2, d3] => { results := [.lit (.bool true)], args := [d1, d2, d3] }
  | _ => none }
def readingLeftRow : OpenClaim := { program := "ytjbhfonokgkalaa", sum := "70c27df2fd7c8e98878c267ce301de63091538468363fc8bfd6d076cf6e3bb27", func := "foolscap/foolscaplaw06.ReadingLeft", spec := "readingLeft", unfollowed := true, recurses := true, loops := true, apart := false }
def ReadingLeftSaid : Prop := readingLeftRow.holds Try.pinned (OpenSpec.ofChange readingLeftSpec)

/-- ITS FALSE NEIGHBOUR: 'it returns false'. Refute it at one input. -/
def readingLeftWrong : ChangeSpec := { name := "readingLeft", fn := fun _ => fun
  | [d1, d2, d3] => { results := [.lit (.bool false)], args := [d1, d2, d3] }
  | _ => none }
def ReadingLeftWrongFalsely : Prop := readingLeftRow.holds Try.pinned (OpenSpec.ofChange readingLeftWrong)

/-- 'foolscaplaw07.NfaRights': WHATEVER THE INPUT: true; the input reads as it did. -/
def nfaRightsSpec : ChangeSpec := { name := "nfaRights", fn := fun _ => fun
  | [d] => { results := [.lit (.bool true)], args := [d] }
  | _ => none }
def nfaRightsRow : OpenClaim := { program := "ytjbhfonokgkalaa", sum := "70c27df2fd7c8e98878c267ce301de63091538468363fc8bfd6d076cf6e3bb27", func := "foolscap/foolscaplaw07.NfaRights", spec := "nfaRights", unfollowed := true, recurses := true, loops := true, apart := false }
def NfaRightsSaid : Prop := nfaRightsRow.holds Try.pinned (OpenSpec.ofChange nfaRightsSpec)

/-- ITS FALSE NEIGHBOUR: 'it returns false'. Refute it at one input. -/
def nfaRightsWrong : ChangeSpec := { name := "nfaRights", fn := fun _ => fun
  | [d] => { results := [.lit (.bool false)], args := [d] }
  | _ => none }
def NfaRightsWrongFalsely : Prop := nfaRightsRow.holds Try.pinned (OpenSpec.ofChange nfaRightsWrong)

/-- 'foolscaplaw07.NfaMatches': WHATEVER THE INPUT: true; the input reads as it did. -/
def nfaMatchesSpec : ChangeSpec := { name := "nfaMatches", fn := fun _ => fun
  | [d1, d2] => { results := [.lit (.bool true)], args := [d1, d2] }
  | _ => none }
def nfaMatchesRow : OpenClaim := { program := "ytjbhfonokgkalaa", sum := "70c27df2fd7c8e98878c267ce301de63091538468363fc8bfd6d076cf6e3bb27", func := "foolscap/foolscaplaw07.NfaMatches", spec := "nfaMatches", unfollowed := true, recurses := true, loops := true, apart := false }
def NfaMatchesSaid : Prop := nfaMatchesRow.holds Try.pinned (OpenSpec.ofChange nfaMatchesSpec)

/-- ITS FALSE NEIGHBOUR: 'it returns false'. Refute it at one input. -/
def nfaMatchesWrong : ChangeSpec := { name := "nfaMatches", fn := fun _ => fun
  | [d1, d2] => { results := [.lit (.bool false)], args := [d1, d2] }
  | _ => none }
def NfaMatchesWrongFalsely : Prop := nfaMatchesRow.holds Try.pinned (OpenSpec.ofChange nfaMatchesWrong)

/- THE SECOND FORM. 'bulk': how many values and letters a reading holds, each counted each time it is reached (what is shared counts as often as it is met; a slice's spare places count too). A statement '..UptoSaid' is the law's where the arguments, and the package variables that the reading takes, are together of bulk at most 1048576: NARROWER than '..Said'. Prove '..Said' where nothing that the law and all that it calls make is longer than what came in: it says more and counts as full. Else prove '..UptoSaid'. A law counts once. -/
mutual
def uptoBulk {H : Type} : DataW H → Nat
  | .lit (.string bytes) => bytes.length + 1
  | .lit _ => 1
  | .nil => 1
  | .ptr d => uptoBulk d + 1
  | .slice elems spare => uptoBulkAll elems + uptoBulkAll spare + 1
  | .agg parts => uptoBulkAll parts + 1
  | .iface _ d => uptoBulk d + 1
  | .map entries => uptoBulkEntries entries + 1
  | .held _ => 1
def uptoBulkAll {H : Type} : List (DataW H) → Nat
  | [] => 0
  | d :: r => uptoBulk d + uptoBulkAll r
def uptoBulkEntries {H : Type} : List (Lit × DataW H) → Nat
  | [] => 0
  | x :: r => uptoBulkEntry x + uptoBulkEntries r
def uptoBulkEntry {H : Type} : Lit × DataW H → Nat
  | (.string bytes, d) => bytes.length + uptoBulk d + 1
  | (_, d) => uptoBulk d + 1
 end
def uptoSmall : (H : Type) → List (DataW H) → Bool := fun _ ds => decide (uptoBulkAll ds ≤ 1048576)
def OpenSpec.upto (s : _root_.Go.ChangeSpec) : _root_.Go.OpenSpec := { _root_.Go.OpenSpec.ofChange s with cond := some uptoSmall }

/-- 'foolscaplaw06.ReadingTells', WHERE WHAT IT READS IS OF BULK AT MOST 1048576: true; the input reads as it did. -/
def readingTellsUptoRow : OpenClaim := { program := "ytjbhfonokgkalaa", sum := "70c27df2fd7c8e98878c267ce301de63091538468363fc8bfd6d076cf6e3bb27", func := "foolscap/foolscaplaw06.ReadingTells", spec := "readingTells", unfollowed := true, recurses := true, loops := true, apart := false, narrowed := true }
def ReadingTellsUptoSaid : Prop := readingTellsUptoRow.holds Try.pinned (OpenSpec.upto readingTellsSpec)

/-- 'foolscaplaw06.ReadingStart', WHERE WHAT IT READS IS OF BULK AT MOST 1048576: true; the input reads as it did. -/
def readingStartUptoRow : OpenClaim := { program := "ytjbhfonokgkalaa", sum := "70c27df2fd7c8e98878c267ce301de63091538468363fc8bfd6d076cf6e3bb27", func := "foolscap/foolscaplaw06.ReadingStart", spec := "readingStart", unfollowed := true, recurses := true, loops := true, apart := false, narrowed := true }
def ReadingStartUptoSaid : Prop := readingStartUptoRow.holds Try.pinned (OpenSpec.upto readingStartSpec)

/-- 'foolscaplaw06.ReadingTurned', WHERE WHAT IT READS IS OF BULK AT MOST 1048576: true; the input reads as it did. -/
def readingTurnedUptoRow : OpenClaim := { program := "ytjbhfonokgkalaa", sum := "70c27df2fd7c8e98878c267ce301de63091538468363fc8bfd6d076cf6e3bb27", func := "foolscap/foolscaplaw06.ReadingTurned", spec := "readingTurned", unfollowed := true, recurses := true, loops := true, apart := false, narrowed := true }
def ReadingTurnedUptoSaid : Prop := readingTurnedUptoRow.holds Try.pinned (OpenSpec.upto readingTurnedSpec)

/-- 'foolscaplaw06.ReadingLeft', WHERE WHAT IT READS IS OF BULK AT MOST 1048576: true; the input reads as it did. -/
def readingLeftUptoRow : OpenClaim := { program := "ytjbhfonokgkalaa", sum := "70c27df2fd7c8e98878c267ce301de63091538468363fc8bfd6d076cf6e3bb27", func := "foolscap/foolscaplaw06.ReadingLeft", spec := "readingLeft", unfollowed := true, recurses := true, loops := true, apart := false, narrowed := true }
def ReadingLeftUptoSaid : Prop := readingLeftUptoRow.holds Try.pinned (OpenSpec.upto readingLeftSpec)

/-- 'foolscaplaw07.NfaRights', WHERE WHAT IT READS IS OF BULK AT MOST 1048576: true; the input reads as it did. -/
def nfaRightsUptoRow : OpenClaim := { program := "ytjbhfonokgkalaa", sum := "70c27df2fd7c8e98878c267ce301de63091538468363fc8bfd6d076cf6e3bb27", func := "foolscap/foolscaplaw07.NfaRights", spec := "nfaRights", unfollowed := true, recurses := true, loops := true, apart := false, narrowed := true }
def NfaRightsUptoSaid : Prop := nfaRightsUptoRow.holds Try.pinned (OpenSpec.upto nfaRightsSpec)

/-- 'foolscaplaw07.NfaMatches', WHERE WHAT IT READS IS OF BULK AT MOST 1048576: true; the input reads as it did. -/
def nfaMatchesUptoRow : OpenClaim := { program := "ytjbhfonokgkalaa", sum := "70c27df2fd7c8e98878c267ce301de63091538468363fc8bfd6d076cf6e3bb27", func := "foolscap/foolscaplaw07.NfaMatches", spec := "nfaMatches", unfollowed := true, recurses := true, loops := true, apart := false, narrowed := true }
def NfaMatchesUptoSaid : Prop := nfaMatchesUptoRow.holds Try.pinned (OpenSpec.upto nfaMatchesSpec)

end Rows
end Go.Proofs.Ytjbhfonokgkalaa
