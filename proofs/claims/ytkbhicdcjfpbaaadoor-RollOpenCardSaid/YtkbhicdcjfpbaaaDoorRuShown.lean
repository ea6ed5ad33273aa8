/- What is known of the tables while the walks of layer 12 go on (FactsU: to be widened for the landed code); what the four calls answer, as the walks ask it; the document's examples. -/
import Derived.Test.YtkbhicdcjfpbaaaDoorRuRefD
namespace Go.Proofs.YtkbhicdcjfpbaaaDoor
open Go.RowKit
set_option linter.unusedVariables false
set_option linter.unusedSimpArgs false

/-- What stands in the memory, whatever is made. (A scratch copy's: civil's table alone.) -/
def FactsU (w : World) : Prop := Lens w
theorem FactsU.below {W W' : World} (h : FactsU W) (hb : Below W.heap.size W W') : FactsU W' := Lens.below h hb
def factsUF : Fact := .that FactsU (fun _ _ hb h => h.below hb)
theorem Held.factsU {w W : World} {fs : List Fact} (h : Held w fs W) (hm : factsUF ∈ fs) : FactsU W := h.all _ hm
theorem rday12_is (n : Int) (b : Bool) (w : World) (h : decide (1 ≤ n ∧ n ≤ 3652059) = b) : Calls Tryd.prog 22 #[.int .i64 n] w fun e w' => e = .returned (.bool b) ∧ Below w.heap.size w w' := by
  have HB := Lib.hid h
  clear h
  go_enter Tryd.func22, Tryd.ntmps22
  go_wp2
  all_goals (go_ret; refine ⟨retB ?_, Below.refl _ _⟩; rw [← HB.out]; rw [Bool.eq_iff_iff]; (try simp only [ge_iff_le, Bool.and_eq_true, decide_eq_true_eq, Bool.false_eq_true, false_iff, true_iff]); omega)
theorem rushown_is : (true = true ↔ Ru.Is ⟨0, 1, 1, 0, 0, 1, 1, 9999⟩ 738155) ∧ (false = true ↔ Ru.Is ⟨0, 1, 1, 0, 0, 1, 1, 9999⟩ 738156) := by
  have h1 : Ru.inn ⟨0, 1, 1, 0, 0, 1, 1, 9999⟩ 2022 = 738155 := by decide +kernel
  refine ⟨⟨fun _ => ⟨by decide, ⟨2022, h1⟩⟩, fun _ => rfl⟩, ⟨fun h => absurd h (by decide), fun h => ?_⟩⟩
  obtain ⟨h0, y, hy⟩ := h
  have := is_near (Y := 2022) (M := 1) (D := 1) (by decide +kernel) h0 hy (by unfold may; decide +kernel) (by decide +kernel)
  have c : y = 2021 ∨ y = 2022 ∨ y = 2023 := by omega
  rcases c with rfl | rfl | rfl <;> (revert hy; decide +kernel)

end Go.Proofs.YtkbhicdcjfpbaaaDoor
