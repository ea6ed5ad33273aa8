/- Plain numbers: how many days ahead of a day are in leap years. No program in this text. -/
import Derived.Test.YtobdimekjhdefaaDoorMoNum
import Derived.Test.YtobdimekjhdefaaDoorRatioNum
namespace Go.Proofs.YtobdimekjhdefaaDoor
set_option linter.unusedVariables false

/-- How many leap years are ahead of a year, from 1 on. -/
def ly (y : Int) : Int := (y - 1) / 4 - (y - 1) / 100 + (y - 1) / 400
theorem ly_step (y : Int) : ly (y + 1) = ly y + if lp y = true then 1 else 0 := by
  unfold ly
  by_cases h : lp y = true
  · rw [if_pos h]; rw [lp_iff] at h; omega
  · rw [if_neg h]; rw [lp_iff] at h; omega
theorem ly_ah (y : Int) : ah y = 365 * (y - 1) + ly y := by unfold ah ly; omega
theorem ly_bd (y : Int) (h1 : 1 ≤ y) (h2 : y ≤ 10000) : 0 ≤ ly y ∧ ly y ≤ 2500 := by unfold ly; omega
theorem ly_le (y z : Int) (h : y ≤ z) : ly y ≤ ly z := by unfold ly; omega
/-- Of four years from one behind a fourth on, the fourth alone may be a leap year. -/
theorem ly_four (y : Int) (h : y % 4 = 0) : ly (y + 4) = ly y + if lp y = true then 1 else 0 := by
  unfold ly
  by_cases h' : lp y = true
  · rw [if_pos h']; rw [lp_iff] at h'; omega
  · rw [if_neg h']; rw [lp_iff] at h'; omega
theorem ly_low (y z : Int) (h : y % 4 = 0) (h1 : y - 4 < z) (h2 : z ≤ y) : ly z = ly y := by unfold ly; omega
/-- How many days ahead of a day are in leap years. -/
def lv (y m d : Int) : Int := 366 * ly y + if lp y = true then am y m + d - 1 else 0
theorem lv_bd (y m d : Int) (h : may y m d) : 0 ≤ lv y m d ∧ lv y m d ≤ 920000 := by
  have a := in_year y m d h
  obtain ⟨h1, h2, -, -, -, -⟩ := h
  have b := ly_bd y h1 (by omega)
  have c := yl_bd y
  unfold lv; split <;> omega
/-- The days that are in no leap years, ahead of a day. -/
theorem lv_rest (y m d : Int) : nb y m d - 1 - lv y m d = 365 * (y - 1 - ly y) + if lp y = true then 0 else am y m + d - 1 := by
  have h := ly_ah y
  unfold nb lv; split <;> omega
/-- A later day has not fewer days ahead of it, of either kind. -/
theorem lv_le (y m d y' m' d' : Int) (h : may y m d) (h' : may y' m' d') (hl : nb y m d ≤ nb y' m' d') :
    0 ≤ lv y' m' d' - lv y m d ∧ lv y' m' d' - lv y m d ≤ nb y' m' d' - nb y m d := by
  have a := in_year y m d h
  have a' := in_year y' m' d' h'
  have e := lv_rest y m d
  have e' := lv_rest y' m' d'
  by_cases hy : y = y'
  · subst hy
    have b : nb y m d = ah y + am y m + d := rfl
    have b' : nb y m' d' = ah y + am y m' + d' := rfl
    unfold lv at *
    split at e <;> split at e' <;> simp_all <;> omega
  · have k : y < y' := by
      by_cases k : y' < y
      · have := nb_lt _ _ _ _ _ _ h' h (Or.inl k)
        omega
      · omega
    have s1 := ly_step y
    have s2 := ly_le (y + 1) y' (by omega)
    have t : ly y' - ly (y + 1) ≤ y' - (y + 1) := by unfold ly; omega
    unfold lv at *
    unfold yl at a a'
    constructor
    · split <;> split <;> simp_all <;> omega
    · by_cases p : lp y = true
      · rw [if_pos p] at *
        split at e' <;> simp_all <;> omega
      · rw [if_neg p] at *
        split at e' <;> simp_all <;> omega
end Go.Proofs.YtobdimekjhdefaaDoor
