/- The walks of Ops (the library's Clone of operations) and Vector (the library's Sorted over a map's keys). -/
import Derived.Test.YtcbnmahbdcjamaaRgK
import Derived.Test.YtcbnmahbdcjamaaRiI
import Derived.Test.YtcbnmahbdcjamaaShelfH
namespace Go.Proofs.Ytcbnmahbdcjamaa
open Go.RowKit Go.Shelf Go.Maps Go.Sort
set_option linter.unusedVariables false
set_option linter.unusedSimpArgs false

end Go.Proofs.Ytcbnmahbdcjamaa
