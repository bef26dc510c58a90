/- The walks of Covers, Gap, Vector. -/
import Derived.Test.YtcbnmahbdcjamaaIdD
import Derived.Laws.EntriesVeiled
namespace Go.Proofs.Ytcbnmahbdcjamaa
open Go.RowKit Go.Sort
set_option linter.unusedVariables false

theorem alloc_gw (w : World) (o : Obj) {W : World} (h : W = w.alloc o) : Gw w W := by rw [h]; exact gw_alloc w o
end Go.Proofs.Ytcbnmahbdcjamaa
