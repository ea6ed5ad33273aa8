/- The document's examples, at the head of each statement of layer 4: they hold. Every contract under the answer's own names. -/
import Derived.Test.YtmaioofcmgaakaaGreatDoorCRefB
namespace Go.Proofs.YtmaioofcmgaakaaGreatDoor
open Go.RowKit
set_option linter.unusedVariables false

theorem leap_is (y : Int) (b : Bool) (w : World) (h : lp y = b) : Calls Tryz.prog 69 #[.int .i64 y] w fun e w' => e = .returned (.bool b) ∧ Below w.heap.size w w' := by
  subst h; exact Calls.same (leap_any y w)
theorem length_is (y m l : Int) (w : World) (hL : Lens w) (h : ln y m = l) : Calls Tryz.prog 55 #[.int .i64 y, .int .i64 m] w fun e w' => e = .returned (.int .i64 l) ∧ Below w.heap.size w w' := by
  subst h; exact Calls.same (length_any y m w hL)
theorem may_is (y m d : Int) (b : Bool) (w : World) (hL : Lens w) (h : mb y m d = b) : Calls Tryz.prog 88 #[.agg #[.int .i64 y, .int .i64 m, .int .i64 d]] w fun e w' => e = .returned (.bool b) ∧ Below w.heap.size w w' := by
  subst h; exact may_any y m d w hL
theorem number_is (y m d n c : Int) (w : World) (hL : Lens w) (h : nN y m d = n ∧ nE y m d = c) : Calls Tryz.prog 74 #[.agg #[.int .i64 y, .int .i64 m, .int .i64 d]] w fun e w' => e = .returned (.tuple #[.int .i64 n, .int .i64 c]) ∧ Below w.heap.size w w' := by
  obtain ⟨rfl, rfl⟩ := h; exact number_any y m d w hL
end Go.Proofs.YtmaioofcmgaakaaGreatDoor
