/- Package ratio: Cmp: how two fractions lie to each other. -/
import Derived.Test.YtobdimekjhdefaaDoorRKit
import Derived.Deep.RegionHeld3
namespace Go.Proofs.YtobdimekjhdefaaDoor
open Go.RowKit
set_option linter.unusedVariables false

end Go.Proofs.YtobdimekjhdefaaDoor
