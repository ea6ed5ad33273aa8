/- Plain numbers: 400 years on, a year on. No program in this text. -/
import Derived.Test.YtkmchbllnfoccaaGreatDoorMoNum
namespace Go.Proofs.YtkmchbllnfoccaaGreatDoor
set_option linter.unusedVariables false

theorem ln_two (y : Int) : ln y 2 = 29 ∨ ln y 2 = 28 := by
  unfold ln
  cases lp y
  · right; rfl
  · left; rfl
theorem lp_next (y : Int) (h : lp y = true) : lp (y + 1) = false := by
  cases e : lp (y + 1)
  · rfl
  · rw [lp_iff] at h e; omega
theorem ln_next (y m d : Int) (h1 : 1 ≤ m) (h2 : m ≤ 12) (hd : d ≤ ln y m) (hs : m ≠ 2 ∨ d ≠ 29) : d ≤ ln (y + 1) m := by
  have a := ln_ge (y + 1) m h1 h2
  by_cases hm : m = 2
  · subst hm
    rcases ln_two y with e | e <;> omega
  · have e : ln (y + 1) m = ln y m := by unfold ln; rw [if_neg (by omega), if_neg (by omega)]
    omega
theorem ln_feb (y : Int) (h : 29 ≤ ln y 2) : ln (y + 1) 2 = 28 := by
  have hl : lp y = true := by
    cases e : lp y
    · exfalso
      have : ln y 2 = 28 := by unfold ln; rw [e]; rfl
      omega
    · rfl
  unfold ln; rw [lp_next y hl]; rfl
theorem nb_era (y m d : Int) : nb (y + 400) m d = nb y m d + 146097 := by
  unfold nb; rw [ah_add]
  have : am (y + 400) m = am y m := by unfold am; rw [lp_add]
  rw [this]; omega
theorem ln_era (y m : Int) : ln (y + 400) m = ln y m := by unfold ln; rw [lp_add]
/-- In the last 400 years numbers are above those ahead. -/
theorem nb_later' (y m d : Int) (h : may y m d) (hy : 9600 ≤ y) : 3652059 < nb y m d + 146097 := by
  have a := in_year y m d h
  have b := ah_le 9600 y hy
  have c : ah (9600 + 400) = ah 9600 + 146097 := ah_add 9600
  have e : ah (9600 + 400) = 3652059 := ah_end
  unfold nb; omega
end Go.Proofs.YtkmchbllnfoccaaGreatDoor
