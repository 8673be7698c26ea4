/- The contracts of sync.Once where turnBack is the one that is done once. -/
import Derived.Test.YtkedoiikkjeadaaDoorAesTb
import Derived.Defers
import Derived.Laws.Pointers
import Derived.Laws.LoneSync
import Derived.RegionTactic
import Derived.RegionCalls
namespace Go.Proofs.YtkedoiikkjeadaaDoor
open Go.RowKit
set_option linter.unusedVariables false
set_option linter.unusedSimpArgs false
end Go.Proofs.YtkedoiikkjeadaaDoor
