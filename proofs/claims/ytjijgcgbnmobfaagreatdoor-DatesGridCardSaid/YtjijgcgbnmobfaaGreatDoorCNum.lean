/- Plain numbers: leap years, months' lengths, days and their numbers. No program in this text. -/
namespace Go.Proofs.YtjijgcgbnmobfaaGreatDoor
set_option linter.unusedVariables false

/-- A leap year. -/
def lp (y : Int) : Bool := (y % 4 == 0 && !(y % 100 == 0)) || y % 400 == 0
/-- How many days a month has in a year that is no leap year. -/
def l0 (m : Int) : Int := if m = 1 then 31 else if m = 2 then 28 else if m = 3 then 31 else if m = 4 then 30 else if m = 5 then 31 else if m = 6 then 30 else if m = 7 then 31 else if m = 8 then 31 else if m = 9 then 30 else if m = 10 then 31 else if m = 11 then 30 else if m = 12 then 31 else 0
/-- How many days a month has. -/
def ln (y m : Int) : Int := if m = 2 ∧ lp y = true then 29 else l0 m
/-- May a day be? -/
def may (y m d : Int) : Prop := 1 ≤ y ∧ y ≤ 9999 ∧ 1 ≤ m ∧ m ≤ 12 ∧ 1 ≤ d ∧ d ≤ ln y m
def mb (y m d : Int) : Bool := decide (1 ≤ y ∧ y ≤ 9999 ∧ 1 ≤ m ∧ m ≤ 12 ∧ 1 ≤ d ∧ d ≤ ln y m)
theorem mb_iff (y m d : Int) : mb y m d = true ↔ may y m d := by simp [mb, may]
theorem mb_not (y m d : Int) : mb y m d = false ↔ ¬ may y m d := by rw [← mb_iff]; simp
/-- How many days are ahead of a year. -/
def ah (y : Int) : Int := (y - 1) * 365 + (y - 1) / 4 - (y - 1) / 100 + (y - 1) / 400
/-- How many days of its year are ahead of a month, in a year that is no leap year. -/
def a0 (m : Int) : Int := if m ≤ 1 then 0 else if m = 2 then 31 else if m = 3 then 59 else if m = 4 then 90 else if m = 5 then 120 else if m = 6 then 151 else if m = 7 then 181 else if m = 8 then 212 else if m = 9 then 243 else if m = 10 then 273 else if m = 11 then 304 else if m = 12 then 334 else 365
/-- How many days of its year are ahead of a month. -/
def am (y m : Int) : Int := a0 m + if 2 < m ∧ lp y = true then 1 else 0
/-- A day's number. -/
def nb (y m d : Int) : Int := ah y + am y m + d
/-- The days of a year. -/
def yl (y : Int) : Int := if lp y = true then 366 else 365

theorem lp_iff (y : Int) : lp y = true ↔ (y % 4 = 0 ∧ ¬ y % 100 = 0) ∨ y % 400 = 0 := by simp [lp]
theorem ln_le (y m : Int) : 0 ≤ ln y m ∧ ln y m ≤ 31 := by unfold ln l0; omega
theorem ln_ge (y m : Int) (h1 : 1 ≤ m) (h2 : m ≤ 12) : 28 ≤ ln y m := by unfold ln l0; omega
theorem ln_out (y m : Int) (h : m < 1 ∨ 12 < m) : ln y m = 0 := by unfold ln l0; omega
theorem am_step (y m : Int) (h1 : 1 ≤ m) (h2 : m ≤ 12) : am y (m + 1) = am y m + ln y m := by
  unfold am ln a0 l0; cases lp y <;> simp <;> omega
theorem am_one (y : Int) : am y 1 = 0 := by unfold am a0; simp
theorem am_end (y : Int) : am y 13 = yl y := by unfold am a0 yl; cases lp y <;> simp
theorem am_bd (y m : Int) : 0 ≤ am y m ∧ am y m ≤ 366 := by unfold am a0; cases lp y <;> simp <;> omega
theorem am_lt (y m k : Int) (h1 : 1 ≤ m) (h2 : m < k) (h3 : k ≤ 13) : am y m + ln y m ≤ am y k := by
  unfold am ln a0 l0; cases lp y <;> simp <;> omega
theorem yl_bd (y : Int) : 365 ≤ yl y ∧ yl y ≤ 366 := by unfold yl; cases lp y <;> simp
theorem ah_step (y : Int) : ah (y + 1) = ah y + yl y := by
  unfold ah yl
  by_cases h : lp y = true
  · rw [if_pos h]; rw [lp_iff] at h; omega
  · rw [if_neg h]; rw [lp_iff] at h; omega
theorem ah_one : ah 1 = 0 := by decide
theorem ah_end : ah 10000 = 3652059 := by decide
theorem ah_add (y : Int) : ah (y + 400) = ah y + 146097 := by unfold ah; omega
theorem lp_add (y : Int) : lp (y + 400) = lp y := by
  rw [Bool.eq_iff_iff, lp_iff, lp_iff]; omega
theorem ah_le (y z : Int) (h : y ≤ z) : ah y + 365 * (z - y) ≤ ah z := by unfold ah; omega
theorem ah_lt (y z : Int) (h : y < z) : ah y + yl y ≤ ah z := by
  rw [← ah_step]; have := ah_le (y + 1) z (by omega); omega
theorem ah_bd (y : Int) (h1 : 1 ≤ y) (h2 : y ≤ 10000) : 0 ≤ ah y ∧ ah y ≤ 3652059 := by
  have a := ah_le 1 y h1; have b := ah_le y 10000 h2
  rw [ah_one] at a; rw [ah_end] at b; omega
theorem in_year (y m d : Int) (h : may y m d) : 1 ≤ am y m + d ∧ am y m + d ≤ yl y := by
  obtain ⟨h1, h2, h3, h4, h5, h6⟩ := h
  have a := am_lt y m 13 h3 (by omega) (by omega)
  have b := (am_bd y m).1
  rw [am_end] at a; omega
theorem nb_bd (y m d : Int) (h : may y m d) : 1 ≤ nb y m d ∧ nb y m d ≤ 3652059 := by
  have a := in_year y m d h
  obtain ⟨h1, h2, h3, h4, h5, h6⟩ := h
  have b := ah_bd y h1 (by omega)
  have c := ah_lt y 10000 (by omega)
  rw [ah_end] at c
  unfold nb; omega
/-- The earlier day has the lower number. -/
theorem nb_lt (y m d y' m' d' : Int) (h : may y m d) (h' : may y' m' d') (hl : y < y' ∨ y = y' ∧ (m < m' ∨ m = m' ∧ d < d')) : nb y m d < nb y' m' d' := by
  have a := in_year y m d h
  have b := in_year y' m' d' h'
  obtain ⟨h1, h2, h3, h4, h5, h6⟩ := h
  obtain ⟨g1, g2, g3, g4, g5, g6⟩ := h'
  unfold nb
  rcases hl with hl | ⟨rfl, hl | ⟨rfl, hl⟩⟩
  · have := ah_lt y y' hl; omega
  · have := am_lt y m m' h3 hl (by omega); omega
  · omega
theorem nb_inj (y m d y' m' d' : Int) (h : may y m d) (h' : may y' m' d') (he : nb y m d = nb y' m' d') : y = y' ∧ m = m' ∧ d = d' := by
  by_cases a : y < y' ∨ y = y' ∧ (m < m' ∨ m = m' ∧ d < d')
  · have := nb_lt y m d y' m' d' h h' a; omega
  · by_cases b : y' < y ∨ y' = y ∧ (m' < m ∨ m' = m ∧ d' < d)
    · have := nb_lt y' m' d' y m d h' h b; omega
    · omega
/-- Of a year's days, each is in a month. -/
theorem month_of (y r : Int) (h1 : 0 ≤ r) (h2 : r < yl y) : ∃ m, 1 ≤ m ∧ m ≤ 12 ∧ am y m ≤ r ∧ r < am y m + ln y m := by
  have key : ∀ k : Nat, k ≤ 12 → am y ((k : Int) + 1) ≤ r ∨ ∃ m, 1 ≤ m ∧ m ≤ 12 ∧ am y m ≤ r ∧ r < am y m + ln y m := by
    intro k
    induction k with
    | zero => intro _; left; rw [show ((0 : Nat) : Int) + 1 = 1 from rfl, am_one]; exact h1
    | succ k ih =>
      intro hk
      rcases ih (by omega) with h | h
      · by_cases hr : r < am y ((k : Int) + 1) + ln y ((k : Int) + 1)
        · right; exact ⟨(k : Int) + 1, by omega, by omega, h, hr⟩
        · left
          have := am_step y ((k : Int) + 1) (by omega) (by omega)
          rw [show ((k + 1 : Nat) : Int) + 1 = (k : Int) + 1 + 1 by omega, this]; omega
      · exact Or.inr h
  rcases key 12 (by omega) with h | h
  · rw [show ((12 : Nat) : Int) + 1 = 13 from rfl, am_end] at h; omega
  · exact h
/-- The year of a number, and how many of its days are gone. -/
theorem year_of (n : Int) (h1 : 1 ≤ n) (h2 : n ≤ 3652059) : ∃ y, 1 ≤ y ∧ y ≤ 9999 ∧ ah y < n ∧ n ≤ ah y + yl y := by
  have key : ∀ k : Nat, k ≤ 9999 → ah ((k : Int) + 1) < n ∨ ∃ y, 1 ≤ y ∧ y ≤ 9999 ∧ ah y < n ∧ n ≤ ah y + yl y := by
    intro k
    induction k with
    | zero => intro _; left; rw [show ((0 : Nat) : Int) + 1 = 1 from rfl, ah_one]; omega
    | succ k ih =>
      intro hk
      rcases ih (by omega) with h | h
      · by_cases hr : n ≤ ah ((k : Int) + 1) + yl ((k : Int) + 1)
        · right; exact ⟨(k : Int) + 1, by omega, by omega, h, hr⟩
        · left
          rw [show ((k + 1 : Nat) : Int) + 1 = (k : Int) + 1 + 1 by omega, ah_step]; omega
      · exact Or.inr h
  rcases key 9999 (by omega) with h | h
  · rw [show ((9999 : Nat) : Int) + 1 = 10000 from rfl, ah_end] at h; omega
  · exact h
/-- Each number is one of a day. -/
theorem day_of (n : Int) (h1 : 1 ≤ n) (h2 : n ≤ 3652059) : ∃ y m d, may y m d ∧ nb y m d = n := by
  obtain ⟨y, a, b, c, e⟩ := year_of n h1 h2
  obtain ⟨m, f, g, i, j⟩ := month_of y (n - ah y - 1) (by omega) (by omega)
  exact ⟨y, m, n - ah y - am y m, ⟨a, b, f, g, by omega, by omega⟩, by unfold nb; omega⟩
/-- The year by divisions: 400 years, centuries, four years, years. -/
theorem year_div (n y : Int) (h1 : 1 ≤ y) (h3 : ah y < n) (h4 : n ≤ ah y + yl y) :
    ∃ r b r2 c, r = (n - 1) % 146097 ∧ b = min (r / 36524) 3 ∧ r2 = r - b * 36524 ∧ c = min (r2 % 1461 / 365) 3 ∧
      y = 1 + (n - 1) / 146097 * 400 + (b * 100 + r2 / 1461 * 4) + c ∧ r2 % 1461 - c * 365 = n - 1 - ah y := by
  obtain ⟨a, b, c, d, hy, b0, b3, c0, c24, d0, d3⟩ : ∃ a b c d : Int, y = 1 + 400 * a + 100 * b + 4 * c + d ∧ 0 ≤ b ∧ b ≤ 3 ∧ 0 ≤ c ∧ c ≤ 24 ∧ 0 ≤ d ∧ d ≤ 3 :=
    ⟨(y - 1) / 400, (y - 1) % 400 / 100, (y - 1) % 100 / 4, (y - 1) % 4, by omega, by omega, by omega, by omega, by omega, by omega, by omega⟩
  have ha : ah y = 146097 * a + 36524 * b + 1461 * c + 365 * d := by unfold ah; omega
  have hl : yl y = 365 ∨ (yl y = 366 ∧ d = 3 ∧ (c ≤ 23 ∨ b = 3)) := by
    unfold yl
    by_cases h : lp y = true
    · rw [if_pos h]; rw [lp_iff] at h; right; omega
    · rw [if_neg h]; left; rfl
  have e1 : (n - 1) / 146097 = a := by omega
  have e2 : (n - 1) % 146097 = n - 1 - 146097 * a := by omega
  have e3 : min ((n - 1 - 146097 * a) / 36524) 3 = b := by omega
  have e4 : n - 1 - 146097 * a - b * 36524 = 1461 * c + (365 * d + (n - 1 - ah y)) := by omega
  have e5 : (1461 * c + (365 * d + (n - 1 - ah y))) / 1461 = c := by omega
  have e6 : (1461 * c + (365 * d + (n - 1 - ah y))) % 1461 = 365 * d + (n - 1 - ah y) := by omega
  have e7 : min ((365 * d + (n - 1 - ah y)) / 365) 3 = d := by omega
  refine ⟨_, _, _, _, rfl, rfl, rfl, rfl, ?_, ?_⟩
  · rw [e1, e2, e3, e4, e5, e6, e7]; omega
  · rw [e2, e3, e4, e6, e7]; omega
end Go.Proofs.YtjijgcgbnmobfaaGreatDoor
