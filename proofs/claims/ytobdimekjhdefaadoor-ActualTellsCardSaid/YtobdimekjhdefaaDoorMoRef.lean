/- The reference of layer 5: Last, End, Shift, Move, month by month. -/
import Derived.Test.YtobdimekjhdefaaDoorMoNum
import Derived.Test.YtobdimekjhdefaaDoorCShown
namespace Go.Proofs.YtobdimekjhdefaaDoor
open Go.RowKit
set_option linter.unusedVariables false

end Go.Proofs.YtobdimekjhdefaaDoor
