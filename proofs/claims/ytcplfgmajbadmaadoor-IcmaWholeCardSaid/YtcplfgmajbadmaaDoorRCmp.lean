/- Package ratio: Cmp: how two fractions lie to each other. -/
import Derived.Test.YtcplfgmajbadmaaDoorRKit
import Derived.Deep.RegionHeld3
namespace Go.Proofs.YtcplfgmajbadmaaDoor
open Go.RowKit
set_option linter.unusedVariables false

end Go.Proofs.YtcplfgmajbadmaaDoor
