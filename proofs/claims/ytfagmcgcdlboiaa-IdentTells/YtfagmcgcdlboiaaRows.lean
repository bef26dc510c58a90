/-
  No cell of these rows narrows 'for every input' (looked for: loops, veiled, ifaces, maps, wideKeys, modest, calm, conditions, laid).
  DERIVED. THE GIVEN ROWS OF THIS SEAT. 7 by the template 'for every input the law returns true; each argument reads behind the call as it read before'; 0 by the template 'total and deterministic' (their statements: YtfagmcgcdlboiaaTotals.lean).
  GIVEN WITH THE SEED: the statements are not yours to turn. If you find one false, say at which input.
  Laid BY PROGRAM, IN A SANDBOX (cutbox-rows.mjs): the forced cells as the released guide's own fill.sh prints them over the translation 14ab522be0f9fd34… (all of the seat's roots in one cut). By AI agents, Wed Nov 11 2026. No macro, syntax, notation, axiom, sorry.
-/
import Derived.Test.YtfagmcgcdlboiaaChecked
import GoSem.Claim
import GoSem.ClaimJoined
import GoSem.ClaimMapViews
import Derived.JoinedTies
import Derived.KernelRfl
namespace Go.Proofs.Ytfagmcgcdlboiaa
/- THE CELL 'sum', in the pinned program and in every row, IS THE sha256 OF THE DUMP (.gsa) THAT YtfagmcgcdlboiaaProg.lean LOADS. Nothing in Lean hashes anything: it is a label: what it is worth is what the hold of that sum in a sandbox is worth. -/
noncomputable def Try.pinned : Pinned := { name := "ytfagmcgcdlboiaa", sum := "14ab522be0f9fd34661d86a9274c60daeb97d88542347121c093c71c2a6466ad", checked := Try.checked }
namespace Rows
def none {H : Type} : Left H := { results := [], args := [] }

/-- 'foolscaplaw12.IdentTells': WHATEVER THE INPUT: true; the input reads as it did. -/
def identTellsSpec : ChangeSpec := { name := "identTells", fn := fun _ => fun
  | [d1, d2, d3, d4, d5] => { results := [.lit (.bool true)], args := [d1, d2, d3, d4, d5] }
  | _ => none }
def identTellsRow : OpenClaim := { program := "ytfagmcgcdlboiaa", sum := "14ab522be0f9fd34661d86a9274c60daeb97d88542347121c093c71c2a6466ad", func := "foolscap/foolscaplaw12.IdentTells", spec := "identTells", unfollowed := true, recurses := true, apart := false }
def IdentTellsSaid : Prop := identTellsRow.holds Try.pinned (OpenSpec.ofChange identTellsSpec)

/-- ITS FALSE NEIGHBOUR: 'it returns false'. Refute it at one input. -/
def identTellsWrong : ChangeSpec := { name := "identTells", fn := fun _ => fun
  | [d1, d2, d3, d4, d5] => { results := [.lit (.bool false)], args := [d1, d2, d3, d4, d5] }
  | _ => none }
def IdentTellsWrongFalsely : Prop := identTellsRow.holds Try.pinned (OpenSpec.ofChange identTellsWrong)

/-- 'foolscaplaw12.IdentVectors': WHATEVER THE INPUT: true; the input reads as it did. -/
def identVectorsSpec : ChangeSpec := { name := "identVectors", fn := fun _ => fun
  | [d1, d2, d3, d4, d5] => { results := [.lit (.bool true)], args := [d1, d2, d3, d4, d5] }
  | _ => none }
def identVectorsRow : OpenClaim := { program := "ytfagmcgcdlboiaa", sum := "14ab522be0f9fd34661d86a9274c60daeb97d88542347121c093c71c2a6466ad", func := "foolscap/foolscaplaw12.IdentVectors", spec := "identVectors", inPlace := ["slices.overlaps[foolscap/api.Entry]"], unfollowed := true, recurses := true, apart := false }
def IdentVectorsSaid : Prop := identVectorsRow.holds Try.pinned (OpenSpec.ofChange identVectorsSpec)

/-- ITS FALSE NEIGHBOUR: 'it returns false'. Refute it at one input. -/
def identVectorsWrong : ChangeSpec := { name := "identVectors", fn := fun _ => fun
  | [d1, d2, d3, d4, d5] => { results := [.lit (.bool false)], args := [d1, d2, d3, d4, d5] }
  | _ => none }
def IdentVectorsWrongFalsely : Prop := identVectorsRow.holds Try.pinned (OpenSpec.ofChange identVectorsWrong)

/-- 'foolscaplaw12.IdentOrder': WHATEVER THE INPUT: true; the input reads as it did. -/
def identOrderSpec : ChangeSpec := { name := "identOrder", fn := fun _ => fun
  | [d1, d2, d3] => { results := [.lit (.bool true)], args := [d1, d2, d3] }
  | _ => none }
def identOrderRow : OpenClaim := { program := "ytfagmcgcdlboiaa", sum := "14ab522be0f9fd34661d86a9274c60daeb97d88542347121c093c71c2a6466ad", func := "foolscap/foolscaplaw12.IdentOrder", spec := "identOrder", unfollowed := true, recurses := true, apart := false }
def IdentOrderSaid : Prop := identOrderRow.holds Try.pinned (OpenSpec.ofChange identOrderSpec)

/-- ITS FALSE NEIGHBOUR: 'it returns false'. Refute it at one input. -/
def identOrderWrong : ChangeSpec := { name := "identOrder", fn := fun _ => fun
  | [d1, d2, d3] => { results := [.lit (.bool false)], args := [d1, d2, d3] }
  | _ => none }
def IdentOrderWrongFalsely : Prop := identOrderRow.holds Try.pinned (OpenSpec.ofChange identOrderWrong)

/-- 'foolscaplaw12.IdentJoins': WHATEVER THE INPUT: true; the input reads as it did. -/
def identJoinsSpec : ChangeSpec := { name := "identJoins", fn := fun _ => fun
  | [d1, d2, d3] => { results := [.lit (.bool true)], args := [d1, d2, d3] }
  | _ => none }
def identJoinsRow : OpenClaim := { program := "ytfagmcgcdlboiaa", sum := "14ab522be0f9fd34661d86a9274c60daeb97d88542347121c093c71c2a6466ad", func := "foolscap/foolscaplaw12.IdentJoins", spec := "identJoins", unfollowed := true, recurses := true, apart := false }
def IdentJoinsSaid : Prop := identJoinsRow.holds Try.pinned (OpenSpec.ofChange identJoinsSpec)

/-- ITS FALSE NEIGHBOUR: 'it returns false'. Refute it at one input. -/
def identJoinsWrong : ChangeSpec := { name := "identJoins", fn := fun _ => fun
  | [d1, d2, d3] => { results := [.lit (.bool false)], args := [d1, d2, d3] }
  | _ => none }
def IdentJoinsWrongFalsely : Prop := identJoinsRow.holds Try.pinned (OpenSpec.ofChange identJoinsWrong)

/-- 'foolscaplaw12.IdentAuthors': WHATEVER THE INPUT: true; the input reads as it did. -/
def identAuthorsSpec : ChangeSpec := { name := "identAuthors", fn := fun _ => fun
  | [d1, d2, d3, d4, d5] => { results := [.lit (.bool true)], args := [d1, d2, d3, d4, d5] }
  | _ => none }
def identAuthorsRow : OpenClaim := { program := "ytfagmcgcdlboiaa", sum := "14ab522be0f9fd34661d86a9274c60daeb97d88542347121c093c71c2a6466ad", func := "foolscap/foolscaplaw12.IdentAuthors", spec := "identAuthors", unfollowed := true, recurses := true, apart := false }
def IdentAuthorsSaid : Prop := identAuthorsRow.holds Try.pinned (OpenSpec.ofChange identAuthorsSpec)

/-- ITS FALSE NEIGHBOUR: 'it returns false'. Refute it at one input. -/
def identAuthorsWrong : ChangeSpec := { name := "identAuthors", fn := fun _ => fun
  | [d1, d2, d3, d4, d5] => { results := [.lit (.bool false)], args := [d1, d2, d3, d4, d5] }
  | _ => none }
def IdentAuthorsWrongFalsely : Prop := identAuthorsRow.holds Try.pinned (OpenSpec.ofChange identAuthorsWrong)

/-- 'foolscaplaw12.IdentWiths': WHATEVER THE INPUT: true; the input reads as it did. -/
def identWithsSpec : ChangeSpec := { name := "identWiths", fn := fun _ => fun
  | [d] => { results := [.lit (.bool true)], args := [d] }
  | _ => none }
def identWithsRow : OpenClaim := { program := "ytfagmcgcdlboiaa", sum := "14ab522be0f9fd34661d86a9274c60daeb97d88542347121c093c71c2a6466ad", func := "foolscap/foolscaplaw12.IdentWiths", spec := "identWiths", inPlace := ["slices.overlaps[foolscap/api.Entry]"], unfollowed := true, recurses := true, apart := false }
def IdentWithsSaid : Prop := identWithsRow.holds Try.pinned (OpenSpec.ofChange identWithsSpec)

/-- ITS FALSE NEIGHBOUR: 'it returns false'. Refute it at one input. -/
def identWithsWrong : ChangeSpec := { name := "identWiths", fn := fun _ => fun
  | [d] => { results := [.lit (.bool false)], args := [d] }
  | _ => none }
def IdentWithsWrongFalsely : Prop := identWithsRow.holds Try.pinned (OpenSpec.ofChange identWithsWrong)

/-- 'foolscaplaw12.IdentOps': WHATEVER THE INPUT: true; the input reads as it did. -/
def identOpsSpec : ChangeSpec := { name := "identOps", fn := fun _ => fun
  | [d] => { results := [.lit (.bool true)], args := [d] }
  | _ => none }
def identOpsRow : OpenClaim := { program := "ytfagmcgcdlboiaa", sum := "14ab522be0f9fd34661d86a9274c60daeb97d88542347121c093c71c2a6466ad", func := "foolscap/foolscaplaw12.IdentOps", spec := "identOps", unfollowed := true, recurses := true, apart := false }
def IdentOpsSaid : Prop := identOpsRow.holds Try.pinned (OpenSpec.ofChange identOpsSpec)

/-- ITS FALSE NEIGHBOUR: 'it returns false'. Refute it at one input. -/
def identOpsWrong : ChangeSpec := { name := "identOps", fn := fun _ => fun
  | [d] => { results := [.lit (.bool false)], args := [d] }
  | _ => none }
def IdentOpsWrongFalsely : Prop := identOpsRow.holds Try.pinned (OpenSpec.ofChange identOpsWrong)

/- THE SECOND FORM. 'bulk': how many values and letters a reading holds, each counted each time it is reached (what is shared counts as often as it is met; a slice's spare places count too). A statement '..UptoSaid' is the law's where the arguments, and the package variables that the reading takes, are together of bulk at most 1048576: NARROWER than '..Said'. Prove '..Said' where nothing that the law and all that it calls make is longer than what came in: it says more and counts as full. Else prove '..UptoSaid'. A law counts once. -/
mutual
def uptoBulk {H : Type} : DataW H → Nat
  | .lit (.string bytes) => bytes.length + 1
  | .lit _ => 1
  | .nil => 1
  | .ptr d => uptoBulk d + 1
  | .slice elems spare => uptoBulkAll elems + uptoBulkAll spare + 1
  | .agg parts => uptoBulkAll parts + 1
  | .iface _ d => uptoBulk d + 1
  | .map entries => uptoBulkEntries entries + 1
  | .held _ => 1
def uptoBulkAll {H : Type} : List (DataW H) → Nat
  | [] => 0
  | d :: r => uptoBulk d + uptoBulkAll r
def uptoBulkEntries {H : Type} : List (Lit × DataW H) → Nat
  | [] => 0
  | x :: r => uptoBulkEntry x + uptoBulkEntries r
def uptoBulkEntry {H : Type} : Lit × DataW H → Nat
  | (.string bytes, d) => bytes.length + uptoBulk d + 1
  | (_, d) => uptoBulk d + 1
 end
def uptoSmall : (H : Type) → List (DataW H) → Bool := fun _ ds => decide (uptoBulkAll ds ≤ 1048576)
def OpenSpec.upto (s : _root_.Go.ChangeSpec) : _root_.Go.OpenSpec := { _root_.Go.OpenSpec.ofChange s with cond := some uptoSmall }

/-- 'foolscaplaw12.IdentTells', WHERE WHAT IT READS IS OF BULK AT MOST 1048576: true; the input reads as it did. -/
def identTellsUptoRow : OpenClaim := { program := "ytfagmcgcdlboiaa", sum := "14ab522be0f9fd34661d86a9274c60daeb97d88542347121c093c71c2a6466ad", func := "foolscap/foolscaplaw12.IdentTells", spec := "identTells", unfollowed := true, recurses := true, apart := false, narrowed := true }
def IdentTellsUptoSaid : Prop := identTellsUptoRow.holds Try.pinned (OpenSpec.upto identTellsSpec)

/-- 'foolscaplaw12.IdentVectors', WHERE WHAT IT READS IS OF BULK AT MOST 1048576: true; the input reads as it did. -/
def identVectorsUptoRow : OpenClaim := { program := "ytfagmcgcdlboiaa", sum := "14ab522be0f9fd34661d86a9274c60daeb97d88542347121c093c71c2a6466ad", func := "foolscap/foolscaplaw12.IdentVectors", spec := "identVectors", inPlace := ["slices.overlaps[foolscap/api.Entry]"], unfollowed := true, recurses := true, apart := false, narrowed := true }
def IdentVectorsUptoSaid : Prop := identVectorsUptoRow.holds Try.pinned (OpenSpec.upto identVectorsSpec)

/-- 'foolscaplaw12.IdentOrder', WHERE WHAT IT READS IS OF BULK AT MOST 1048576: true; the input reads as it did. -/
def identOrderUptoRow : OpenClaim := { program := "ytfagmcgcdlboiaa", sum := "14ab522be0f9fd34661d86a9274c60daeb97d88542347121c093c71c2a6466ad", func := "foolscap/foolscaplaw12.IdentOrder", spec := "identOrder", unfollowed := true, recurses := true, apart := false, narrowed := true }
def IdentOrderUptoSaid : Prop := identOrderUptoRow.holds Try.pinned (OpenSpec.upto identOrderSpec)

/-- 'foolscaplaw12.IdentJoins', WHERE WHAT IT READS IS OF BULK AT MOST 1048576: true; the input reads as it did. -/
def identJoinsUptoRow : OpenClaim := { program := "ytfagmcgcdlboiaa", sum := "14ab522be0f9fd34661d86a9274c60daeb97d88542347121c093c71c2a6466ad", func := "foolscap/foolscaplaw12.IdentJoins", spec := "identJoins", unfollowed := true, recurses := true, apart := false, narrowed := true }
def IdentJoinsUptoSaid : Prop := identJoinsUptoRow.holds Try.pinned (OpenSpec.upto identJoinsSpec)

/-- 'foolscaplaw12.IdentAuthors', WHERE WHAT IT READS IS OF BULK AT MOST 1048576: true; the input reads as it did. -/
def identAuthorsUptoRow : OpenClaim := { program := "ytfagmcgcdlboiaa", sum := "14ab522be0f9fd34661d86a9274c60daeb97d88542347121c093c71c2a6466ad", func := "foolscap/foolscaplaw12.IdentAuthors", spec := "identAuthors", unfollowed := true, recurses := true, apart := false, narrowed := true }
def IdentAuthorsUptoSaid : Prop := identAuthorsUptoRow.holds Try.pinned (OpenSpec.upto identAuthorsSpec)

/-- 'foolscaplaw12.IdentWiths', WHERE WHAT IT READS IS OF BULK AT MOST 1048576: true; the input reads as it did. -/
def identWithsUptoRow : OpenClaim := { program := "ytfagmcgcdlboiaa", sum := "14ab522be0f9fd34661d86a9274c60daeb97d88542347121c093c71c2a6466ad", func := "foolscap/foolscaplaw12.IdentWiths", spec := "identWiths", inPlace := ["slices.overlaps[foolscap/api.Entry]"], unfollowed := true, recurses := true, apart := false, narrowed := true }
def IdentWithsUptoSaid : Prop := identWithsUptoRow.holds Try.pinned (OpenSpec.upto identWithsSpec)

/-- 'foolscaplaw12.IdentOps', WHERE WHAT IT READS IS OF BULK AT MOST 1048576: true; the input reads as it did. -/
def identOpsUptoRow : OpenClaim := { program := "ytfagmcgcdlboiaa", sum := "14ab522be0f9fd34661d86a9274c60daeb97d88542347121c093c71c2a6466ad", func := "foolscap/foolscaplaw12.IdentOps", spec := "identOps", unfollowed := true, recurses := true, apart := false, narrowed := true }
def IdentOpsUptoSaid : Prop := identOpsUptoRow.holds Try.pinned (OpenSpec.upto identOpsSpec)

end Rows
end Go.Proofs.Ytfagmcgcdlboiaa
