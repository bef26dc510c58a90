/-
  NARROWER THAN 'FOR EVERY INPUT', by the rows' own cells (each row's printed sentence says how): DfaBuilds: loops, laid · DfaRuns: loops, laid · DfaLeast: loops, laid · DfaEqual: loops, laid · DfaLimits: laid · DfaTurns: loops, laid · DfaEither: loops, laid · DfaBeginnings: loops, laid · DfaMore: loops, laid.
  DERIVED. THE GIVEN ROWS OF THIS SEAT. 9 by the template 'for every input the law returns true; each argument reads behind the call as it read before'; 0 by the template 'total and deterministic' (their statements: YtpmmmgjiekikeaaDoorTotals.lean).
  GIVEN WITH THE SEED: the statements are not yours to turn. If you find one false, say at which input.
  Laid BY PROGRAM, IN A SANDBOX (cutbox-rows.mjs): the forced cells as the released guide's own fill.sh prints them over the translation c2a379568b1fdc02… (all of the seat's roots in one cut). By AI agents, Wed Nov 11 2026. No macro, syntax, notation, axiom, sorry.
-/
import Derived.Test.YtpmmmgjiekikeaaDoorChecked
import GoSem.Claim
import GoSem.ClaimJoined
import GoSem.ClaimMapViews
import Derived.JoinedTies
import Derived.KernelRfl
namespace Go.Proofs.YtpmmmgjiekikeaaDoor
/- THE CELL 'sum', in the pinned program and in every row, IS THE sha256 OF THE DUMP (.gsa) THAT YtpmmmgjiekikeaaDoorProg.lean LOADS. Nothing in Lean hashes anything: it is a label: what it is worth is what the hold of that sum in a sandbox is worth. -/
noncomputable def Tryd.pinned : Pinned := { name := "ytpmmmgjiekikeaadoor", sum := "c2a379568b1fdc02737bd76b02cf95357f65b235e7e5d4cd79be31dda20f39b3", checked := Tryd.checked }
namespace Rows
def none {H : Type} : Left H := { results := [], args := [] }

/- WHAT THE LISTED PACKAGE-LEVEL VARIABLES READ AS WHEN THE CALL BEGINS. Each datum BY PROGRAM (the guide's laid-datum.mjs) off the statement by which the dump's own 'gosem.cut.vars' lays the variable. In a bare row this is a premise. The card (YtpmmmgjiekikeaaDoorCards.lean) ties it to the program's text. -/
def laid_math_bits_deBruijn32tab {H : Type} : DataW H := .agg [.lit (.int .u8 0), .lit (.int .u8 1), .lit (.int .u8 28), .lit (.int .u8 2), .lit (.int .u8 29), .lit (.int .u8 14), .lit (.int .u8 24), .lit (.int .u8 3), .lit (.int .u8 30), .lit (.int .u8 22), .lit (.int .u8 20), .lit (.int .u8 15), .lit (.int .u8 25), .lit (.int .u8 17), .lit (.int .u8 4), .lit (.int .u8 8), .lit (.int .u8 31), .lit (.int .u8 27), .lit (.int .u8 13), .lit (.int .u8 23), .lit (.int .u8 21), .lit (.int .u8 19), .lit (.int .u8 16), .lit (.int .u8 7), .lit (.int .u8 26), .lit (.int .u8 12), .lit (.int .u8 18), .lit (.int .u8 6), .lit (.int .u8 11), .lit (.int .u8 5), .lit (.int .u8 10), .lit (.int .u8 9)]
def laid_math_bits_deBruijn64tab {H : Type} : DataW H := .agg [.lit (.int .u8 0), .lit (.int .u8 1), .lit (.int .u8 56), .lit (.int .u8 2), .lit (.int .u8 57), .lit (.int .u8 49), .lit (.int .u8 28), .lit (.int .u8 3), .lit (.int .u8 61), .lit (.int .u8 58), .lit (.int .u8 42), .lit (.int .u8 50), .lit (.int .u8 38), .lit (.int .u8 29), .lit (.int .u8 17), .lit (.int .u8 4), .lit (.int .u8 62), .lit (.int .u8 47), .lit (.int .u8 59), .lit (.int .u8 36), .lit (.int .u8 45), .lit (.int .u8 43), .lit (.int .u8 51), .lit (.int .u8 22), .lit (.int .u8 53), .lit (.int .u8 39), .lit (.int .u8 33), .lit (.int .u8 30), .lit (.int .u8 24), .lit (.int .u8 18), .lit (.int .u8 12), .lit (.int .u8 5), .lit (.int .u8 63), .lit (.int .u8 55), .lit (.int .u8 48), .lit (.int .u8 27), .lit (.int .u8 60), .lit (.int .u8 41), .lit (.int .u8 37), .lit (.int .u8 16), .lit (.int .u8 46), .lit (.int .u8 35), .lit (.int .u8 44), .lit (.int .u8 21), .lit (.int .u8 52), .lit (.int .u8 32), .lit (.int .u8 23), .lit (.int .u8 11), .lit (.int .u8 54), .lit (.int .u8 26), .lit (.int .u8 40), .lit (.int .u8 15), .lit (.int .u8 34), .lit (.int .u8 20), .lit (.int .u8 31), .lit (.int .u8 10), .lit (.int .u8 25), .lit (.int .u8 14), .lit (.int .u8 19), .lit (.int .u8 9), .lit (.int .u8 13), .lit (.int .u8 8), .lit (.int .u8 7), .lit (.int .u8 6)]
def laid_internal_strconv_uint64pow10 {H : Type} : DataW H := .agg [.lit (.int .u64 1), .lit (.int .u64 10), .lit (.int .u64 100), .lit (.int .u64 1000), .lit (.int .u64 10000), .lit (.int .u64 100000), .lit (.int .u64 1000000), .lit (.int .u64 10000000), .lit (.int .u64 100000000), .lit (.int .u64 1000000000), .lit (.int .u64 10000000000), .lit (.int .u64 100000000000), .lit (.int .u64 1000000000000), .lit (.int .u64 10000000000000), .lit (.int .u64 100000000000000), .lit (.int .u64 1000000000000000), .lit (.int .u64 10000000000000000), .lit (.int .u64 100000000000000000), .lit (.int .u64 1000000000000000000), .lit (.int .u64 10000000000000000000)]

/-- 'foolscaplaw08.DfaBuilds': WHATEVER THE INPUT: true; the input reads as it did. -/
def dfaBuildsSpec : ChangeSpec := { name := "dfaBuilds", fn := fun _ => fun
  | [d1, d2] => { results := [.lit (.bool true)], args := [d1, d2] }
  | _ => none }
def dfaBuildsRow : OpenClaim := { program := "ytpmmmgjiekikeaadoor", sum := "c2a379568b1fdc02737bd76b02cf95357f65b235e7e5d4cd79be31dda20f39b3", func := "foolscap/foolscaplaw08.DfaBuilds", spec := "dfaBuilds", unfollowed := true, recurses := true, named := ["math/bits.deBruijn64tab", "internal/strconv.uint64pow10", "math/bits.deBruijn32tab"], loops := true, apart := false, laid := [("math/bits.deBruijn32tab", laid_math_bits_deBruijn32tab), ("math/bits.deBruijn64tab", laid_math_bits_deBruijn64tab), ("internal/strconv.uint64pow10", laid_internal_strconv_uint64pow10)] }
def DfaBuildsSaid : Prop := dfaBuildsRow.holds Tryd.pinned (OpenSpec.ofChange dfaBuildsSpec)

/-- ITS FALSE NEIGHBOUR: 'it returns false'. Refute it at one input. -/
def dfaBuildsWrong : ChangeSpec := { name := "dfaBuilds", fn := fun _ => fun
  | [d1, d2] => { results := [.lit (.bool false)], args := [d1, d2] }
  | _ => none }
def DfaBuildsWrongFalsely : Prop := dfaBuildsRow.holds Tryd.pinned (OpenSpec.ofChange dfaBuildsWrong)

/-- 'foolscaplaw08.DfaRuns': WHATEVER THE INPUT: true; the input reads as it did. -/
def dfaRunsSpec : ChangeSpec := { name := "dfaRuns", fn := fun _ => fun
  | [d1, d2, d3] => { results := [.lit (.bool true)], args := [d1, d2, d3] }
  | _ => none }
def dfaRunsRow : OpenClaim := { program := "ytpmmmgjiekikeaadoor", sum := "c2a379568b1fdc02737bd76b02cf95357f65b235e7e5d4cd79be31dda20f39b3", func := "foolscap/foolscaplaw08.DfaRuns", spec := "dfaRuns", unfollowed := true, recurses := true, named := ["math/bits.deBruijn64tab", "internal/strconv.uint64pow10", "math/bits.deBruijn32tab"], loops := true, apart := false, laid := [("math/bits.deBruijn32tab", laid_math_bits_deBruijn32tab), ("math/bits.deBruijn64tab", laid_math_bits_deBruijn64tab), ("internal/strconv.uint64pow10", laid_internal_strconv_uint64pow10)] }
def DfaRunsSaid : Prop := dfaRunsRow.holds Tryd.pinned (OpenSpec.ofChange dfaRunsSpec)

/-- ITS FALSE NEIGHBOUR: 'it returns false'. Refute it at one input. -/
def dfaRunsWrong : ChangeSpec := { name := "dfaRuns", fn := fun _ => fun
  | [d1, d2, d3] => { results := [.lit (.bool false)], args := [d1, d2, d3] }
  | _ => none }
def DfaRunsWrongFalsely : Prop := dfaRunsRow.holds Tryd.pinned (OpenSpec.ofChange dfaRunsWrong)

/-- 'foolscaplaw08.DfaLeast': WHATEVER THE INPUT: true; the input reads as it did. -/
def dfaLeastSpec : ChangeSpec := { name := "dfaLeast", fn := fun _ => fun
  | [d1, d2] => { results := [.lit (.bool true)], args := [d1, d2] }
  | _ => none }
def dfaLeastRow : OpenClaim := { program := "ytpmmmgjiekikeaadoor", sum := "c2a379568b1fdc02737bd76b02cf95357f65b235e7e5d4cd79be31dda20f39b3", func := "foolscap/foolscaplaw08.DfaLeast", spec := "dfaLeast", unfollowed := true, recurses := true, named := ["math/bits.deBruijn64tab", "internal/strconv.uint64pow10", "math/bits.deBruijn32tab"], loops := true, apart := false, laid := [("math/bits.deBruijn32tab", laid_math_bits_deBruijn32tab), ("math/bits.deBruijn64tab", laid_math_bits_deBruijn64tab), ("internal/strconv.uint64pow10", laid_internal_strconv_uint64pow10)] }
def DfaLeastSaid : Prop := dfaLeastRow.holds Tryd.pinned (OpenSpec.ofChange dfaLeastSpec)

/-- ITS FALSE NEIGHBOUR: 'it returns false'. Refute it at one input. -/
def dfaLeastWrong : ChangeSpec := { name := "dfaLeast", fn := fun _ => fun
  | [d1, d2] => { results := [.lit (.bool false)], args := [d1, d2] }
  | _ => none }
def DfaLeastWrongFalsely : Prop := dfaLeastRow.holds Tryd.pinned (OpenSpec.ofChange dfaLeastWrong)

/-- 'foolscaplaw08.DfaEqual': WHATEVER THE INPUT: true; the input reads as it did. -/
def dfaEqualSpec : ChangeSpec := { name := "dfaEqual", fn := fun _ => fun
  | [d1, d2] => { results := [.lit (.bool true)], args := [d1, d2] }
  | _ => none }
def dfaEqualRow : OpenClaim := { program := "ytpmmmgjiekikeaadoor", sum := "c2a379568b1fdc02737bd76b02cf95357f65b235e7e5d4cd79be31dda20f39b3", func := "foolscap/foolscaplaw08.DfaEqual", spec := "dfaEqual", unfollowed := true, recurses := true, named := ["math/bits.deBruijn64tab", "internal/strconv.uint64pow10", "math/bits.deBruijn32tab"], loops := true, apart := false, laid := [("math/bits.deBruijn32tab", laid_math_bits_deBruijn32tab), ("math/bits.deBruijn64tab", laid_math_bits_deBruijn64tab), ("internal/strconv.uint64pow10", laid_internal_strconv_uint64pow10)] }
def DfaEqualSaid : Prop := dfaEqualRow.holds Tryd.pinned (OpenSpec.ofChange dfaEqualSpec)

/-- ITS FALSE NEIGHBOUR: 'it returns false'. Refute it at one input. -/
def dfaEqualWrong : ChangeSpec := { name := "dfaEqual", fn := fun _ => fun
  | [d1, d2] => { results := [.lit (.bool false)], args := [d1, d2] }
  | _ => none }
def DfaEqualWrongFalsely : Prop := dfaEqualRow.holds Tryd.pinned (OpenSpec.ofChange dfaEqualWrong)

/-- 'foolscaplaw08.DfaLimits': WHATEVER THE INPUT: true; the input reads as it did. -/
def dfaLimitsSpec : ChangeSpec := { name := "dfaLimits", fn := fun _ => fun
  | [d] => { results := [.lit (.bool true)], args := [d] }
  | _ => none }
def dfaLimitsRow : OpenClaim := { program := "ytpmmmgjiekikeaadoor", sum := "c2a379568b1fdc02737bd76b02cf95357f65b235e7e5d4cd79be31dda20f39b3", func := "foolscap/foolscaplaw08.DfaLimits", spec := "dfaLimits", unfollowed := true, recurses := true, named := ["math/bits.deBruijn64tab", "internal/strconv.uint64pow10", "math/bits.deBruijn32tab"], apart := false, laid := [("math/bits.deBruijn32tab", laid_math_bits_deBruijn32tab), ("math/bits.deBruijn64tab", laid_math_bits_deBruijn64tab), ("internal/strconv.uint64pow10", laid_internal_strconv_uint64pow10)] }
def DfaLimitsSaid : Prop := dfaLimitsRow.holds Tryd.pinned (OpenSpec.ofChange dfaLimitsSpec)

/-- ITS FALSE NEIGHBOUR: 'it returns false'. Refute it at one input. -/
def dfaLimitsWrong : ChangeSpec := { name := "dfaLimits", fn := fun _ => fun
  | [d] => { results := [.lit (.bool false)], args := [d] }
  | _ => none }
def DfaLimitsWrongFalsely : Prop := dfaLimitsRow.holds Tryd.pinned (OpenSpec.ofChange dfaLimitsWrong)

/-- 'foolscaplaw08.DfaTurns': WHATEVER THE INPUT: true; the input reads as it did. -/
def dfaTurnsSpec : ChangeSpec := { name := "dfaTurns", fn := fun _ => fun
  | [d1, d2, d3] => { results := [.lit (.bool true)], args := [d1, d2, d3] }
  | _ => none }
def dfaTurnsRow : OpenClaim := { program := "ytpmmmgjiekikeaadoor", sum := "c2a379568b1fdc02737bd76b02cf95357f65b235e7e5d4cd79be31dda20f39b3", func := "foolscap/foolscaplaw08.DfaTurns", spec := "dfaTurns", unfollowed := true, recurses := true, named := ["math/bits.deBruijn64tab", "internal/strconv.uint64pow10", "math/bits.deBruijn32tab"], loops := true, apart := false, laid := [("math/bits.deBruijn32tab", laid_math_bits_deBruijn32tab), ("math/bits.deBruijn64tab", laid_math_bits_deBruijn64tab), ("internal/strconv.uint64pow10", laid_internal_strconv_uint64pow10)] }
def DfaTurnsSaid : Prop := dfaTurnsRow.holds Tryd.pinned (OpenSpec.ofChange dfaTurnsSpec)

/-- ITS FALSE NEIGHBOUR: 'it returns false'. Refute it at one input. -/
def dfaTurnsWrong : ChangeSpec := { name := "dfaTurns", fn := fun _ => fun
  | [d1, d2, d3] => { results := [.lit (.bool false)], args := [d1, d2, d3] }
  | _ => none }
def DfaTurnsWrongFalsely : Prop := dfaTurnsRow.holds Tryd.pinned (OpenSpec.ofChange dfaTurnsWrong)

/-- 'foolscaplaw08.DfaEither': WHATEVER THE INPUT: true; the input reads as it did. -/
def dfaEitherSpec : ChangeSpec := { name := "dfaEither", fn := fun _ => fun
  | [d1, d2, d3, d4] => { results := [.lit (.bool true)], args := [d1, d2, d3, d4] }
  | _ => none }
def dfaEitherRow : OpenClaim := { program := "ytpmmmgjiekikeaadoor", sum := "c2a379568b1fdc02737bd76b02cf95357f65b235e7e5d4cd79be31dda20f39b3", func := "foolscap/foolscaplaw08.DfaEither", spec := "dfaEither", unfollowed := true, recurses := true, named := ["math/bits.deBruijn64tab", "internal/strconv.uint64pow10", "math/bits.deBruijn32tab"], loops := true, apart := false, laid := [("math/bits.deBruijn32tab", laid_math_bits_deBruijn32tab), ("math/bits.deBruijn64tab", laid_math_bits_deBruijn64tab), ("internal/strconv.uint64pow10", laid_internal_strconv_uint64pow10)] }
def DfaEitherSaid : Prop := dfaEitherRow.holds Tryd.pinned (OpenSpec.ofChange dfaEitherSpec)

/-- ITS FALSE NEIGHBOUR: 'it returns false'. Refute it at one input. -/
def dfaEitherWrong : ChangeSpec := { name := "dfaEither", fn := fun _ => fun
  | [d1, d2, d3, d4] => { results := [.lit (.bool false)], args := [d1, d2, d3, d4] }
  | _ => none }
def DfaEitherWrongFalsely : Prop := dfaEitherRow.holds Tryd.pinned (OpenSpec.ofChange dfaEitherWrong)

/-- 'foolscaplaw08.DfaBeginnings': WHATEVER THE INPUT: true; the input reads as it did. -/
def dfaBeginningsSpec : ChangeSpec := { name := "dfaBeginnings", fn := fun _ => fun
  | [d1, d2, d3, d4] => { results := [.lit (.bool true)], args := [d1, d2, d3, d4] }
  | _ => none }
def dfaBeginningsRow : OpenClaim := { program := "ytpmmmgjiekikeaadoor", sum := "c2a379568b1fdc02737bd76b02cf95357f65b235e7e5d4cd79be31dda20f39b3", func := "foolscap/foolscaplaw08.DfaBeginnings", spec := "dfaBeginnings", unfollowed := true, recurses := true, named := ["math/bits.deBruijn64tab", "internal/strconv.uint64pow10", "math/bits.deBruijn32tab"], loops := true, apart := false, laid := [("math/bits.deBruijn32tab", laid_math_bits_deBruijn32tab), ("math/bits.deBruijn64tab", laid_math_bits_deBruijn64tab), ("internal/strconv.uint64pow10", laid_internal_strconv_uint64pow10)] }
def DfaBeginningsSaid : Prop := dfaBeginningsRow.holds Tryd.pinned (OpenSpec.ofChange dfaBeginningsSpec)

/-- ITS FALSE NEIGHBOUR: 'it returns false'. Refute it at one input. -/
def dfaBeginningsWrong : ChangeSpec := { name := "dfaBeginnings", fn := fun _ => fun
  | [d1, d2, d3, d4] => { results := [.lit (.bool false)], args := [d1, d2, d3, d4] }
  | _ => none }
def DfaBeginningsWrongFalsely : Prop := dfaBeginningsRow.holds Tryd.pinned (OpenSpec.ofChange dfaBeginningsWrong)

/-- 'foolscaplaw08.DfaMore': WHATEVER THE INPUT: true; the input reads as it did. -/
def dfaMoreSpec : ChangeSpec := { name := "dfaMore", fn := fun _ => fun
  | [d1, d2] => { results := [.lit (.bool true)], args := [d1, d2] }
  | _ => none }
def dfaMoreRow : OpenClaim := { program := "ytpmmmgjiekikeaadoor", sum := "c2a379568b1fdc02737bd76b02cf95357f65b235e7e5d4cd79be31dda20f39b3", func := "foolscap/foolscaplaw08.DfaMore", spec := "dfaMore", unfollowed := true, recurses := true, named := ["math/bits.deBruijn64tab", "internal/strconv.uint64pow10", "math/bits.deBruijn32tab"], loops := true, apart := false, laid := [("math/bits.deBruijn32tab", laid_math_bits_deBruijn32tab), ("math/bits.deBruijn64tab", laid_math_bits_deBruijn64tab), ("internal/strconv.uint64pow10", laid_internal_strconv_uint64pow10)] }
def DfaMoreSaid : Prop := dfaMoreRow.holds Tryd.pinned (OpenSpec.ofChange dfaMoreSpec)

/-- ITS FALSE NEIGHBOUR: 'it returns false'. Refute it at one input. -/
def dfaMoreWrong : ChangeSpec := { name := "dfaMore", fn := fun _ => fun
  | [d1, d2] => { results := [.lit (.bool false)], args := [d1, d2] }
  | _ => none }
def DfaMoreWrongFalsely : Prop := dfaMoreRow.holds Tryd.pinned (OpenSpec.ofChange dfaMoreWrong)

/- THE SECOND FORM. 'bulk': how many values and letters a reading holds, each counted each time it is reached (what is shared counts as often as it is met; a slice's spare places count too). A statement '..UptoSaid' is the law's where the arguments, and the package variables that the reading takes, are together of bulk at most 1048576: NARROWER than '..Said'. Prove '..Said' where nothing that the law and all that it calls make is longer than what came in: it says more and counts as full. Else prove '..UptoSaid'. A law counts once. -/
mutual
def uptoBulk {H : Type} : DataW H → Nat
  | .lit (.string bytes) => bytes.length + 1
  | .lit _ => 1
  | .nil => 1
  | .ptr d => uptoBulk d + 1
  | .slice elems spare => uptoBulkAll elems + uptoBulkAll spare + 1
  | .agg parts => uptoBulkAll parts + 1
  | .iface _ d => uptoBulk d + 1
  | .map entries => uptoBulkEntries entries + 1
  | .held _ => 1
def uptoBulkAll {H : Type} : List (DataW H) → Nat
  | [] => 0
  | d :: r => uptoBulk d + uptoBulkAll r
def uptoBulkEntries {H : Type} : List (Lit × DataW H) → Nat
  | [] => 0
  | x :: r => uptoBulkEntry x + uptoBulkEntries r
def uptoBulkEntry {H : Type} : Lit × DataW H → Nat
  | (.string bytes, d) => bytes.length + uptoBulk d + 1
  | (_, d) => uptoBulk d + 1
 end
def uptoSmall : (H : Type) → List (DataW H) → Bool := fun _ ds => decide (uptoBulkAll ds ≤ 1048576)
def OpenSpec.upto (s : _root_.Go.ChangeSpec) : _root_.Go.OpenSpec := { _root_.Go.OpenSpec.ofChange s with cond := some uptoSmall }

/-- 'foolscaplaw08.DfaBuilds', WHERE WHAT IT READS IS OF BULK AT MOST 1048576: true; the input reads as it did. -/
def dfaBuildsUptoRow : OpenClaim := { program := "ytpmmmgjiekikeaadoor", sum := "c2a379568b1fdc02737bd76b02cf95357f65b235e7e5d4cd79be31dda20f39b3", func := "foolscap/foolscaplaw08.DfaBuilds", spec := "dfaBuilds", unfollowed := true, recurses := true, named := ["math/bits.deBruijn64tab", "internal/strconv.uint64pow10", "math/bits.deBruijn32tab"], loops := true, apart := false, laid := [("math/bits.deBruijn32tab", laid_math_bits_deBruijn32tab), ("math/bits.deBruijn64tab", laid_math_bits_deBruijn64tab), ("internal/strconv.uint64pow10", laid_internal_strconv_uint64pow10)], narrowed := true }
def DfaBuildsUptoSaid : Prop := dfaBuildsUptoRow.holds Tryd.pinned (OpenSpec.upto dfaBuildsSpec)

/-- 'foolscaplaw08.DfaRuns', WHERE WHAT IT READS IS OF BULK AT MOST 1048576: true; the input reads as it did. -/
def dfaRunsUptoRow : OpenClaim := { program := "ytpmmmgjiekikeaadoor", sum := "c2a379568b1fdc02737bd76b02cf95357f65b235e7e5d4cd79be31dda20f39b3", func := "foolscap/foolscaplaw08.DfaRuns", spec := "dfaRuns", unfollowed := true, recurses := true, named := ["math/bits.deBruijn64tab", "internal/strconv.uint64pow10", "math/bits.deBruijn32tab"], loops := true, apart := false, laid := [("math/bits.deBruijn32tab", laid_math_bits_deBruijn32tab), ("math/bits.deBruijn64tab", laid_math_bits_deBruijn64tab), ("internal/strconv.uint64pow10", laid_internal_strconv_uint64pow10)], narrowed := true }
def DfaRunsUptoSaid : Prop := dfaRunsUptoRow.holds Tryd.pinned (OpenSpec.upto dfaRunsSpec)

/-- 'foolscaplaw08.DfaLeast', WHERE WHAT IT READS IS OF BULK AT MOST 1048576: true; the input reads as it did. -/
def dfaLeastUptoRow : OpenClaim := { program := "ytpmmmgjiekikeaadoor", sum := "c2a379568b1fdc02737bd76b02cf95357f65b235e7e5d4cd79be31dda20f39b3", func := "foolscap/foolscaplaw08.DfaLeast", spec := "dfaLeast", unfollowed := true, recurses := true, named := ["math/bits.deBruijn64tab", "internal/strconv.uint64pow10", "math/bits.deBruijn32tab"], loops := true, apart := false, laid := [("math/bits.deBruijn32tab", laid_math_bits_deBruijn32tab), ("math/bits.deBruijn64tab", laid_math_bits_deBruijn64tab), ("internal/strconv.uint64pow10", laid_internal_strconv_uint64pow10)], narrowed := true }
def DfaLeastUptoSaid : Prop := dfaLeastUptoRow.holds Tryd.pinned (OpenSpec.upto dfaLeastSpec)

/-- 'foolscaplaw08.DfaEqual', WHERE WHAT IT READS IS OF BULK AT MOST 1048576: true; the input reads as it did. -/
def dfaEqualUptoRow : OpenClaim := { program := "ytpmmmgjiekikeaadoor", sum := "c2a379568b1fdc02737bd76b02cf95357f65b235e7e5d4cd79be31dda20f39b3", func := "foolscap/foolscaplaw08.DfaEqual", spec := "dfaEqual", unfollowed := true, recurses := true, named := ["math/bits.deBruijn64tab", "internal/strconv.uint64pow10", "math/bits.deBruijn32tab"], loops := true, apart := false, laid := [("math/bits.deBruijn32tab", laid_math_bits_deBruijn32tab), ("math/bits.deBruijn64tab", laid_math_bits_deBruijn64tab), ("internal/strconv.uint64pow10", laid_internal_strconv_uint64pow10)], narrowed := true }
def DfaEqualUptoSaid : Prop := dfaEqualUptoRow.holds Tryd.pinned (OpenSpec.upto dfaEqualSpec)

/-- 'foolscaplaw08.DfaLimits', WHERE WHAT IT READS IS OF BULK AT MOST 1048576: true; the input reads as it did. -/
def dfaLimitsUptoRow : OpenClaim := { program := "ytpmmmgjiekikeaadoor", sum := "c2a379568b1fdc02737bd76b02cf95357f65b235e7e5d4cd79be31dda20f39b3", func := "foolscap/foolscaplaw08.DfaLimits", spec := "dfaLimits", unfollowed := true, recurses := true, named := ["math/bits.deBruijn64tab", "internal/strconv.uint64pow10", "math/bits.deBruijn32tab"], apart := false, laid := [("math/bits.deBruijn32tab", laid_math_bits_deBruijn32tab), ("math/bits.deBruijn64tab", laid_math_bits_deBruijn64tab), ("internal/strconv.uint64pow10", laid_internal_strconv_uint64pow10)], narrowed := true }
def DfaLimitsUptoSaid : Prop := dfaLimitsUptoRow.holds Tryd.pinned (OpenSpec.upto dfaLimitsSpec)

/-- 'foolscaplaw08.DfaTurns', WHERE WHAT IT READS IS OF BULK AT MOST 1048576: true; the input reads as it did. -/
def dfaTurnsUptoRow : OpenClaim := { program := "ytpmmmgjiekikeaadoor", sum := "c2a379568b1fdc02737bd76b02cf95357f65b235e7e5d4cd79be31dda20f39b3", func := "foolscap/foolscaplaw08.DfaTurns", spec := "dfaTurns", unfollowed := true, recurses := true, named := ["math/bits.deBruijn64tab", "internal/strconv.uint64pow10", "math/bits.deBruijn32tab"], loops := true, apart := false, laid := [("math/bits.deBruijn32tab", laid_math_bits_deBruijn32tab), ("math/bits.deBruijn64tab", laid_math_bits_deBruijn64tab), ("internal/strconv.uint64pow10", laid_internal_strconv_uint64pow10)], narrowed := true }
def DfaTurnsUptoSaid : Prop := dfaTurnsUptoRow.holds Tryd.pinned (OpenSpec.upto dfaTurnsSpec)

/-- 'foolscaplaw08.DfaEither', WHERE WHAT IT READS IS OF BULK AT MOST 1048576: true; the input reads as it did. -/
def dfaEitherUptoRow : OpenClaim := { program := "ytpmmmgjiekikeaadoor", sum := "c2a379568b1fdc02737bd76b02cf95357f65b235e7e5d4cd79be31dda20f39b3", func := "foolscap/foolscaplaw08.DfaEither", spec := "dfaEither", unfollowed := true, recurses := true, named := ["math/bits.deBruijn64tab", "internal/strconv.uint64pow10", "math/bits.deBruijn32tab"], loops := true, apart := false, laid := [("math/bits.deBruijn32tab", laid_math_bits_deBruijn32tab), ("math/bits.deBruijn64tab", laid_math_bits_deBruijn64tab), ("internal/strconv.uint64pow10", laid_internal_strconv_uint64pow10)], narrowed := true }
def DfaEitherUptoSaid : Prop := dfaEitherUptoRow.holds Tryd.pinned (OpenSpec.upto dfaEitherSpec)

/-- 'foolscaplaw08.DfaBeginnings', WHERE WHAT IT READS IS OF BULK AT MOST 1048576: true; the input reads as it did. -/
def dfaBeginningsUptoRow : OpenClaim := { program := "ytpmmmgjiekikeaadoor", sum := "c2a379568b1fdc02737bd76b02cf95357f65b235e7e5d4cd79be31dda20f39b3", func := "foolscap/foolscaplaw08.DfaBeginnings", spec := "dfaBeginnings", unfollowed := true, recurses := true, named := ["math/bits.deBruijn64tab", "internal/strconv.uint64pow10", "math/bits.deBruijn32tab"], loops := true, apart := false, laid := [("math/bits.deBruijn32tab", laid_math_bits_deBruijn32tab), ("math/bits.deBruijn64tab", laid_math_bits_deBruijn64tab), ("internal/strconv.uint64pow10", laid_internal_strconv_uint64pow10)], narrowed := true }
def DfaBeginningsUptoSaid : Prop := dfaBeginningsUptoRow.holds Tryd.pinned (OpenSpec.upto dfaBeginningsSpec)

/-- 'foolscaplaw08.DfaMore', WHERE WHAT IT READS IS OF BULK AT MOST 1048576: true; the input reads as it did. -/
def dfaMoreUptoRow : OpenClaim := { program := "ytpmmmgjiekikeaadoor", sum := "c2a379568b1fdc02737bd76b02cf95357f65b235e7e5d4cd79be31dda20f39b3", func := "foolscap/foolscaplaw08.DfaMore", spec := "dfaMore", unfollowed := true, recurses := true, named := ["math/bits.deBruijn64tab", "internal/strconv.uint64pow10", "math/bits.deBruijn32tab"], loops := true, apart := false, laid := [("math/bits.deBruijn32tab", laid_math_bits_deBruijn32tab), ("math/bits.deBruijn64tab", laid_math_bits_deBruijn64tab), ("internal/strconv.uint64pow10", laid_internal_strconv_uint64pow10)], narrowed := true }
def DfaMoreUptoSaid : Prop := dfaMoreUptoRow.holds Tryd.pinned (OpenSpec.upto dfaMoreSpec)

end Rows
end Go.Proofs.YtpmmmgjiekikeaaDoor
