/- The library's Clone of operations. -/
import Derived.Test.YtlelbepfkkaojaaDoorBasW
import Derived.Laws.AppendOwn
import Derived.Deep.DeepCutAuto
namespace Go.Proofs.YtlelbepfkkaojaaDoor
open Go.RowKit Go.Shelf Go.Maps Go.Sort
set_option linter.unusedVariables false
set_option linter.unusedSimpArgs false

theorem info_P : (Tryd.prog.info? 32).map (fun i => (i.zero, i.size, i.bytes)) = some (some op0.val, 7, 56) := by kernel_rfl
end Go.Proofs.YtlelbepfkkaojaaDoor
