/- The document's examples, at the head of each statement of layer 4: they hold. Every contract under the answer's own names. -/
import Derived.Test.YtkbhicdcjfpbaaaDoorCRefB
namespace Go.Proofs.YtkbhicdcjfpbaaaDoor
open Go.RowKit
set_option linter.unusedVariables false

theorem leap_is (y : Int) (b : Bool) (w : World) (h : lp y = b) : Calls Tryd.prog 60 #[.int .i64 y] w fun e w' => e = .returned (.bool b) ∧ Below w.heap.size w w' := by
  subst h; exact Calls.same (leap_any y w)
theorem length_is (y m l : Int) (w : World) (hL : Lens w) (h : ln y m = l) : Calls Tryd.prog 54 #[.int .i64 y, .int .i64 m] w fun e w' => e = .returned (.int .i64 l) ∧ Below w.heap.size w w' := by
  subst h; exact Calls.same (length_any y m w hL)
theorem may_is (y m d : Int) (b : Bool) (w : World) (hL : Lens w) (h : mb y m d = b) : Calls Tryd.prog 77 #[.agg #[.int .i64 y, .int .i64 m, .int .i64 d]] w fun e w' => e = .returned (.bool b) ∧ Below w.heap.size w w' := by
  subst h; exact may_any y m d w hL
theorem number_is (y m d n c : Int) (w : World) (hL : Lens w) (h : nN y m d = n ∧ nE y m d = c) : Calls Tryd.prog 74 #[.agg #[.int .i64 y, .int .i64 m, .int .i64 d]] w fun e w' => e = .returned (.tuple #[.int .i64 n, .int .i64 c]) ∧ Below w.heap.size w w' := by
  obtain ⟨rfl, rfl⟩ := h; exact number_any y m d w hL
theorem week_is (n k : Int) (w : World) (h : wk n = k) : Calls Tryd.prog 48 #[.int .i64 n] w fun e w' => e = .returned (.int .i64 k) ∧ Below w.heap.size w w' := by
  subst h; exact Calls.same (week_any n w)
theorem rleap_is (y : Int) (b : Bool) (w : World) (h : lp y = b) : Calls Tryd.prog 43 #[.int .i64 y] w fun e w' => e = .returned (.bool b) ∧ Below w.heap.size w w' := by
  subst h; exact Calls.same (rleap_any y w)
theorem rlength_is (y m l : Int) (w : World) (h : ln y m = l) : Calls Tryd.prog 37 #[.int .i64 y, .int .i64 m] w fun e w' => e = .returned (.int .i64 l) ∧ Below w.heap.size w w' := by
  subst h; exact Calls.same (rlength_any y m w)
theorem rmay_is (y m d : Int) (b : Bool) (w : World) (h : mb y m d = b) : Calls Tryd.prog 44 #[.agg #[.int .i64 y, .int .i64 m, .int .i64 d]] w fun e w' => e = .returned (.bool b) ∧ Below w.heap.size w w' := by
  subst h; exact rmay_any y m d w
theorem rnumber_is (y m d n c : Int) (w : World) (h : nN y m d = n ∧ nE y m d = c) : Calls Tryd.prog 38 #[.agg #[.int .i64 y, .int .i64 m, .int .i64 d]] w fun e w' => e = .returned (.tuple #[.int .i64 n, .int .i64 c]) ∧ Below w.heap.size w w' := by
  obtain ⟨rfl, rfl⟩ := h; exact rnumber_any y m d w
theorem rweek_is (n k : Int) (w : World) (h : wk n = k) : Calls Tryd.prog 25 #[.int .i64 n] w fun e w' => e = .returned (.int .i64 k) ∧ Below w.heap.size w w' := by
  subst h; exact Calls.same (rweek_any n w)

end Go.Proofs.YtkbhicdcjfpbaaaDoor
