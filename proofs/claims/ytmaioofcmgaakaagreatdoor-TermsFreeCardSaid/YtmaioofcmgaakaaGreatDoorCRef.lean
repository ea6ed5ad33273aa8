/- The reference of layer 4: leap years, lengths of months, which days may be, the days ahead of a year, numbers, days of numbers, days of the week. -/
import Derived.Test.YtmaioofcmgaakaaGreatDoorCivilB
namespace Go.Proofs.YtmaioofcmgaakaaGreatDoor
open Go.RowKit
set_option linter.unusedVariables false
set_option linter.unusedSimpArgs false

end Go.Proofs.YtmaioofcmgaakaaGreatDoor
