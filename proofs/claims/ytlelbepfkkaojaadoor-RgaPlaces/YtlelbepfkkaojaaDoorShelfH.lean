/- Nothing is laid of the library for this seat, whose statement calls no Vector; the texts that follow import this one. -/
import Derived.Shelf.SlGeneric
import Derived.Shelf.SlIterI.Nil
import Derived.Shelf.SortM.Plain
import Derived.Shelf.SortM.SortNone
import Derived.Test.YtlelbepfkkaojaaDoorProg
namespace Go.Proofs.YtlelbepfkkaojaaDoor
open Go.Shelf
end Go.Proofs.YtlelbepfkkaojaaDoor
