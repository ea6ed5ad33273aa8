/- The reference of layer 4: numbers of days, days of numbers. -/
import Derived.Test.YtmaioofcmgaakaaGreatDoorCRef
namespace Go.Proofs.YtmaioofcmgaakaaGreatDoor
open Go.RowKit
set_option linter.unusedVariables false
set_option linter.unusedSimpArgs false

end Go.Proofs.YtmaioofcmgaakaaGreatDoor
