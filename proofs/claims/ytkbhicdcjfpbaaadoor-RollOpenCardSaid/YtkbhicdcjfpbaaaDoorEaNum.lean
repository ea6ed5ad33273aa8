/- Plain numbers: the full moon's day of March, Easter Sunday. No program in this text. -/
import Derived.Test.YtkbhicdcjfpbaaaDoorCivilB
namespace Go.Proofs.YtkbhicdcjfpbaaaDoor
set_option linter.unusedVariables false

/-- What is left by 30 of the moon's age. -/
def eaR (y : Int) : Int := (11 * (y % 19 + 1) + 20 + ((8 * (y / 100 + 1) + 5) / 25 - 5) - (3 * (y / 100 + 1) / 4 - 12)) % 30
def eaE (y : Int) : Int := if eaR y = 25 ∧ 11 < y % 19 + 1 ∨ eaR y = 24 then eaR y + 1 else eaR y
/-- The full moon's day of March. -/
def eaN (y : Int) : Int := if 44 - eaE y < 21 then 74 - eaE y else 44 - eaE y
theorem eaN_bd (y : Int) : 21 ≤ eaN y ∧ eaN y ≤ 49 := by
  have a : 0 ≤ eaR y ∧ eaR y < 30 := by unfold eaR; omega
  unfold eaN eaE
  split <;> split <;> omega
/-- The first Sunday from a day on. -/
def sun (d : Int) : Int := d + (6 - wk d)
theorem sun_bd (d : Int) : d ≤ sun d ∧ sun d ≤ d + 6 := by unfold sun wk; omega
theorem sun_wk (d : Int) : wk (sun d) = 6 := by unfold sun wk; omega
def east (y : Int) : Int := sun (nb y 3 1 + eaN y)
def EaIs (y n c : Int) : Prop := (1 ≤ y ∧ y ≤ 9999 ∧ east y = n ∧ c = 0) ∨ ((y < 1 ∨ 9999 < y) ∧ n = 0 ∧ c = 3)
theorem ea_is (y : Int) : ∃ n c, EaIs y n c := by
  by_cases h : y < 1 ∨ 9999 < y
  · exact ⟨0, 3, Or.inr ⟨h, rfl, rfl⟩⟩
  · exact ⟨_, 0, Or.inl ⟨by omega, by omega, rfl, rfl⟩⟩
theorem ea_in (y : Int) (h1 : 1 ≤ y) (h2 : y ≤ 9999) : EaIs y (east y) 0 := Or.inl ⟨h1, h2, rfl, rfl⟩
theorem ea_val {y n : Int} (h1 : 1 ≤ y) (h2 : y ≤ 9999) (h : east y = n) : EaIs y n 0 := Or.inl ⟨h1, h2, h, rfl⟩
theorem ea_out {y : Int} (h : y < 1 ∨ 9999 < y) : EaIs y 0 3 := Or.inr ⟨h, rfl, rfl⟩
/-- From March 1 to the next year's there are 365 days, or 366. -/
theorem march (y d : Int) : nb y 3 d = ah y + (59 + if lp y = true then 1 else 0) + d := by unfold nb am a0; simp
theorem march_next (y : Int) : 365 ≤ nb (y + 1) 3 1 - nb y 3 1 ∧ nb (y + 1) 3 1 - nb y 3 1 ≤ 366 := by
  have s := ah_step y
  rw [march, march]
  unfold yl at s
  have n : lp y = true → lp (y + 1) = false := fun h => by
    cases e : lp (y + 1) with
    | false => rfl
    | true => rw [lp_iff] at h e; omega
  by_cases h : lp y = true
  · rw [n h]; rw [if_pos h] at s; simp [h]; omega
  · rw [if_neg h] at s; simp [h]; split <;> omega
theorem march_31 (y : Int) : nb y 4 25 = nb y 3 56 := by unfold nb am a0; simp; omega
theorem ea_bd (y : Int) : nb y 3 1 + 21 ≤ east y ∧ east y ≤ nb y 3 1 + 55 := by
  have a := eaN_bd y
  have b := sun_bd (nb y 3 1 + eaN y)
  unfold east
  omega
theorem may_march (y d : Int) (h1 : 1 ≤ y) (h2 : y ≤ 9999) (d1 : 1 ≤ d) (d2 : d ≤ 31) : may y 3 d := ⟨h1, h2, by decide, by decide, d1, by unfold ln l0; simp; exact d2⟩
theorem may_april (y : Int) (h1 : 1 ≤ y) (h2 : y ≤ 9999) : may y 4 25 := ⟨h1, h2, by decide, by decide, by decide, by unfold ln l0; simp⟩
/-- 19 years on, in one century, the moon is full on the same day. -/
theorem eaN_19 (y : Int) (h : y / 100 = (y + 19) / 100) : eaN (y + 19) = eaN y := by
  have e : (y + 19) % 19 = y % 19 := by omega
  have f : eaR (y + 19) = eaR y := by unfold eaR; rw [e, ← h]
  unfold eaN eaE
  rw [f, e]
end Go.Proofs.YtkbhicdcjfpbaaaDoor
