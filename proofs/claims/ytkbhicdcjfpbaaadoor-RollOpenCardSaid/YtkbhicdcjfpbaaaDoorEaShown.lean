/- What is known of the tables while the walks of layer 11 go on (FactsE: to be widened for the landed code); Easter, as the walks ask it; the document's examples. -/
import Derived.Test.YtkbhicdcjfpbaaaDoorEaRef
namespace Go.Proofs.YtkbhicdcjfpbaaaDoor
open Go.RowKit
set_option linter.unusedVariables false

/-- What stands in the memory, whatever is made. (A scratch copy's: civil's table alone.) -/
def FactsE (w : World) : Prop := Lens w
theorem FactsE.below {W W' : World} (h : FactsE W) (hb : Below W.heap.size W W') : FactsE W' := Lens.below h hb
def factsEF : Fact := .that FactsE (fun _ _ hb h => h.below hb)
theorem Held.factsE {w W : World} {fs : List Fact} (h : Held w fs W) (hm : factsEF ∈ fs) : FactsE W := h.all _ hm
/-- What Day answers. -/
structure EWay : Prop where
  day : ∀ (y n c : Int) (w : World), FactsE w → EaIs y n c → Calls Tryd.prog 73 #[.int .i64 y] w fun e w' => e = .returned (.tuple #[.int .i64 n, .int .i64 c]) ∧ Below w.heap.size w w'
end Go.Proofs.YtkbhicdcjfpbaaaDoor
