/- Plain numbers: a day so many months on. No program in this text. -/
import Derived.Test.YtjijgcgbnmobfaaGreatDoorCivilB
namespace Go.Proofs.YtjijgcgbnmobfaaGreatDoor
set_option linter.unusedVariables false

/-- The day of the month that a day becomes in another month: the same, or the month's last one; an end stays one, if b. -/
def dm (b : Bool) (y m d Y M : Int) : Int := if b = true ∧ d = ln y m then ln Y M else min d (ln Y M)
theorem dm_may (b : Bool) (y m d Y M : Int) (h : may y m d) (h1 : 1 ≤ Y) (h2 : Y ≤ 9999) (h3 : 1 ≤ M) (h4 : M ≤ 12) : may Y M (dm b y m d Y M) := by
  obtain ⟨a1, a2, a3, a4, a5, a6⟩ := h
  have := ln_ge Y M h3 h4
  refine ⟨h1, h2, h3, h4, ?_, ?_⟩ <;> (unfold dm; split <;> omega)
/-- What is told of a day k months on. -/
def MoveIs (n k : Int) (b : Bool) (r e : Int) : Prop :=
  (∃ y m d Y M : Int, may y m d ∧ nb y m d = n ∧ 1 ≤ Y ∧ Y ≤ 9999 ∧ 1 ≤ M ∧ M ≤ 12 ∧ 12 * Y + M = 12 * y + m + k ∧ nb Y M (dm b y m d Y M) = r ∧ e = 0)
  ∨ ((∃ y m d : Int, may y m d ∧ nb y m d = n ∧ (12 * y + m + k < 13 ∨ 120000 < 12 * y + m + k)) ∧ r = 0 ∧ e = 3)
  ∨ ((n < 1 ∨ 3652059 < n) ∧ r = 0 ∧ e = 3)
theorem move_in {n k r : Int} {b : Bool} (y m d Y M D : Int) (h : may y m d) (hn : nb y m d = n) (h1 : 1 ≤ Y) (h2 : Y ≤ 9999) (h3 : 1 ≤ M) (h4 : M ≤ 12)
    (hk : 12 * Y + M = 12 * y + m + k) (hD : dm b y m d Y M = D) (hr : nb Y M D = r) : MoveIs n k b r 0 :=
  Or.inl ⟨y, m, d, Y, M, h, hn, h1, h2, h3, h4, hk, by rw [hD, hr], rfl⟩
theorem move_far {n k : Int} {b : Bool} (y m d : Int) (h : may y m d) (hn : nb y m d = n) (hk : 12 * y + m + k < 13 ∨ 120000 < 12 * y + m + k) : MoveIs n k b 0 3 :=
  Or.inr (Or.inl ⟨⟨y, m, d, h, hn, hk⟩, rfl, rfl⟩)
theorem move_out {n k : Int} {b : Bool} (h : n < 1 ∨ 3652059 < n) : MoveIs n k b 0 3 := Or.inr (Or.inr ⟨h, rfl, rfl⟩)
theorem move_is (n k : Int) (b : Bool) : ∃ r e, MoveIs n k b r e := by
  by_cases h : n < 1 ∨ 3652059 < n
  · exact ⟨0, 3, move_out h⟩
  · obtain ⟨y, m, d, h1, h2⟩ := day_of n (by omega) (by omega)
    by_cases hk : 12 * y + m + k < 13 ∨ 120000 < 12 * y + m + k
    · exact ⟨0, 3, move_far y m d h1 h2 hk⟩
    · exact ⟨_, _, move_in y m d ((12 * y + m + k - 1) / 12) ((12 * y + m + k - 1) % 12 + 1) _ h1 h2 (by omega) (by omega) (by omega) (by omega) (by omega) rfl rfl⟩
/-- What is told of the end of a day's month. -/
def EndIs (n r e : Int) : Prop := (∃ y m d : Int, may y m d ∧ nb y m d = n ∧ nb y m (ln y m) = r ∧ e = 0) ∨ ((n < 1 ∨ 3652059 < n) ∧ r = 0 ∧ e = 3)
theorem end_in {n r : Int} (y m d : Int) (h : may y m d) (hn : nb y m d = n) (hr : nb y m (ln y m) = r) : EndIs n r 0 := Or.inl ⟨y, m, d, h, hn, hr, rfl⟩
theorem end_out {n : Int} (h : n < 1 ∨ 3652059 < n) : EndIs n 0 3 := Or.inr ⟨h, rfl, rfl⟩
theorem end_is (n : Int) : ∃ r e, EndIs n r e := by
  by_cases h : n < 1 ∨ 3652059 < n
  · exact ⟨0, 3, end_out h⟩
  · obtain ⟨y, m, d, h1, h2⟩ := day_of n (by omega) (by omega)
    exact ⟨_, _, end_in y m d h1 h2 rfl⟩
/-- Is it the last day of a month? -/
def LastIs (n : Int) (b : Bool) : Prop := (∃ y m d : Int, may y m d ∧ nb y m d = n ∧ b = decide (d = ln y m)) ∨ ((n < 1 ∨ 3652059 < n) ∧ b = false)
theorem last_in {n : Int} {b : Bool} (y m d : Int) (h : may y m d) (hn : nb y m d = n) (hb : decide (d = ln y m) = b) : LastIs n b := Or.inl ⟨y, m, d, h, hn, hb.symm⟩
theorem last_out {n : Int} (h : n < 1 ∨ 3652059 < n) : LastIs n false := Or.inr ⟨h, rfl⟩
theorem last_is (n : Int) : ∃ b, LastIs n b := by
  by_cases h : n < 1 ∨ 3652059 < n
  · exact ⟨false, last_out h⟩
  · obtain ⟨y, m, d, h1, h2⟩ := day_of n (by omega) (by omega)
    exact ⟨_, last_in y m d h1 h2 rfl⟩
theorem end_may (y m d : Int) (h : may y m d) : may y m (ln y m) := by
  obtain ⟨a1, a2, a3, a4, a5, a6⟩ := h
  have := ln_ge y m a3 a4
  exact ⟨a1, a2, a3, a4, by omega, Int.le_refl _⟩
end Go.Proofs.YtjijgcgbnmobfaaGreatDoor
