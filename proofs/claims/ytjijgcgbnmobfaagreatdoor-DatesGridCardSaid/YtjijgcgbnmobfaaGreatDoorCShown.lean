/- The document's examples, at the head of each statement of layer 4: they hold. Every contract under the answer's own names. -/
import Derived.Test.YtjijgcgbnmobfaaGreatDoorCRefB
namespace Go.Proofs.YtjijgcgbnmobfaaGreatDoor
open Go.RowKit
set_option linter.unusedVariables false

theorem leap_is (y : Int) (b : Bool) (w : World) (h : lp y = b) : Calls Tryz.prog 91 #[.int .i64 y] w fun e w' => e = .returned (.bool b) ∧ Below w.heap.size w w' := by
  subst h; exact Calls.same (leap_any y w)
theorem length_is (y m l : Int) (w : World) (hL : Lens w) (h : ln y m = l) : Calls Tryz.prog 79 #[.int .i64 y, .int .i64 m] w fun e w' => e = .returned (.int .i64 l) ∧ Below w.heap.size w w' := by
  subst h; exact Calls.same (length_any y m w hL)
theorem may_is (y m d : Int) (b : Bool) (w : World) (hL : Lens w) (h : mb y m d = b) : Calls Tryz.prog 80 #[.agg #[.int .i64 y, .int .i64 m, .int .i64 d]] w fun e w' => e = .returned (.bool b) ∧ Below w.heap.size w w' := by
  subst h; exact may_any y m d w hL
theorem number_is (y m d n c : Int) (w : World) (hL : Lens w) (h : nN y m d = n ∧ nE y m d = c) : Calls Tryz.prog 69 #[.agg #[.int .i64 y, .int .i64 m, .int .i64 d]] w fun e w' => e = .returned (.tuple #[.int .i64 n, .int .i64 c]) ∧ Below w.heap.size w w' := by
  obtain ⟨rfl, rfl⟩ := h; exact number_any y m d w hL
theorem rleap_is (y : Int) (b : Bool) (w : World) (h : lp y = b) : Calls Tryz.prog 46 #[.int .i64 y] w fun e w' => e = .returned (.bool b) ∧ Below w.heap.size w w' := by
  subst h; exact Calls.same (rleap_any y w)
theorem rlength_is (y m l : Int) (w : World) (h : ln y m = l) : Calls Tryz.prog 32 #[.int .i64 y, .int .i64 m] w fun e w' => e = .returned (.int .i64 l) ∧ Below w.heap.size w w' := by
  subst h; exact Calls.same (rlength_any y m w)
theorem rmay_is (y m d : Int) (b : Bool) (w : World) (h : mb y m d = b) : Calls Tryz.prog 47 #[.agg #[.int .i64 y, .int .i64 m, .int .i64 d]] w fun e w' => e = .returned (.bool b) ∧ Below w.heap.size w w' := by
  subst h; exact rmay_any y m d w
theorem rnumber_is (y m d n c : Int) (w : World) (h : nN y m d = n ∧ nE y m d = c) : Calls Tryz.prog 33 #[.agg #[.int .i64 y, .int .i64 m, .int .i64 d]] w fun e w' => e = .returned (.tuple #[.int .i64 n, .int .i64 c]) ∧ Below w.heap.size w w' := by
  obtain ⟨rfl, rfl⟩ := h; exact rnumber_any y m d w
end Go.Proofs.YtjijgcgbnmobfaaGreatDoor
