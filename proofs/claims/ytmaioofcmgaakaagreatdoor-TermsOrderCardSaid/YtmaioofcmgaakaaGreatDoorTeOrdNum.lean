/- What terms with something wrong are refused with, in the order of the document. -/
import Derived.Test.YtmaioofcmgaakaaGreatDoorTeShown
namespace Go.Proofs.YtmaioofcmgaakaaGreatDoor
open Go.RowKit
set_option linter.unusedVariables false
set_option linter.unusedSimpArgs false

theorem ord_1 (t : Tm) (h : ¬ t.Form) : t.code = 1 := Tm.bad h
theorem ord_3 (t : Tm) (h : t.Form ∧ ¬ t.Days) : t.code = 3 := Tm.noDay h.1 h.2
theorem ord_4 (t : Tm) (h : t.Form ∧ t.Days ∧ ¬ t.st < t.en) : t.code = 4 := Tm.turned h.1 h.2.1 h.2.2
theorem ord_2 (t : Tm) (h : t.Form ∧ t.Days ∧ t.st < t.en ∧ (¬ t.Own ∨ (t.Own ∧ 9000000000000000000 < t.mo * t.ra))) : t.code = 2 := by
  rcases h with ⟨h1, h2, h3, h4 | ⟨h4, h5⟩⟩
  · exact Tm.over h1 h2 h3 h4
  · exact Tm.both h1 h2 h3 h4 h5
theorem ord_0 (t : Tm) (h : t.Form ∧ t.Days ∧ t.st < t.en ∧ t.Own ∧ t.mo * t.ra ≤ 9000000000000000000) : t.code = 0 := Tm.may h.1 h.2.1 h.2.2.1 h.2.2.2.1 h.2.2.2.2
end Go.Proofs.YtmaioofcmgaakaaGreatDoor
