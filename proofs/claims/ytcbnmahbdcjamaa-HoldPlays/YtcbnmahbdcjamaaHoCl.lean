/- The walks of the statements' closures, and what they answer. -/
import Derived.Test.YtcbnmahbdcjamaaHoK
import Derived.Test.YtcbnmahbdcjamaaHoN
namespace Go.Proofs.Ytcbnmahbdcjamaa
open Go.RowKit Go.Sort
set_option linter.unusedVariables false
set_option linter.unusedSimpArgs false

/-- A number's box. -/
abbrev bxI (v : Int) : Obj := .cells #[.int .i64 v] 3 (0, 0)
end Go.Proofs.Ytcbnmahbdcjamaa
