/- The walks of Ops (the library's Clone of operations) and Vector (the library's Sorted over a map's keys). -/
import Derived.Test.YtlelbepfkkaojaaDoorRgK
import Derived.Test.YtlelbepfkkaojaaDoorRiI
import Derived.Test.YtlelbepfkkaojaaDoorShelfH
namespace Go.Proofs.YtlelbepfkkaojaaDoor
open Go.RowKit Go.Shelf Go.Maps Go.Sort
set_option linter.unusedVariables false
set_option linter.unusedSimpArgs false

end Go.Proofs.YtlelbepfkkaojaaDoor
