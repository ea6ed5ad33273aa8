/- Package ratio: Cmp: how two fractions lie to each other. -/
import Derived.Test.YtkmchbllnfoccaaGreatDoorRKit
import Derived.Deep.RegionHeld3
namespace Go.Proofs.YtkmchbllnfoccaaGreatDoor
open Go.RowKit
set_option linter.unusedVariables false

end Go.Proofs.YtkmchbllnfoccaaGreatDoor
