/- Package civil: Leap, Length, the days ahead of a year, the year of a number, Weekday. -/
import Derived.Test.YtjijgcgbnmobfaaGreatDoorCBase
namespace Go.Proofs.YtjijgcgbnmobfaaGreatDoor
open Go.RowKit
set_option linter.unusedVariables false

theorem tmod0 (y k : Int) : y.tmod k = 0 ↔ y % k = 0 := by
  rw [← Int.dvd_iff_tmod_eq_zero, Int.dvd_iff_emod_eq_zero]
theorem tmod_bd (y k : Int) (hk : 0 < k) : -k < y.tmod k ∧ y.tmod k < k := by
  have h1 := Int.lt_tmod_of_pos y hk
  have h2 := Int.tmod_lt_of_pos y hk
  omega
theorem retB {a b : Bool} (h : a = b) : Ending.returned (.bool a) = .returned (.bool b) := by rw [h]
theorem retI {k : IntKind} {a b : Int} (h : a = b) : Ending.returned (.int k a) = .returned (.int k b) := by rw [h]
theorem ret2 {k l : IntKind} {a b c d : Int} (h1 : a = c) (h2 : b = d) : Ending.returned (.tuple #[.int k a, .int l b]) = .returned (.tuple #[.int k c, .int l d]) := by rw [h1, h2]
theorem leap_any (y : Int) (w : World) : Calls Tryz.prog 91 #[.int .i64 y] w fun e w' => e = .returned (.bool (lp y)) ∧ w = w' := by
  have b1 := tmod_bd y 4 (by decide)
  have b2 := tmod_bd y 100 (by decide)
  have b3 := tmod_bd y 400 (by decide)
  have e1 := tmod0 y 4
  have e2 := tmod0 y 100
  have e3 := tmod0 y 400
  obtain ⟨b, hb⟩ : ∃ b, lp y = b := ⟨_, rfl⟩
  have hl := lp_iff y
  rw [hb] at hl ⊢
  go_enter Tryz.func91, Tryz.ntmps91
  go_wp2
  all_goals (go_ret; refine ⟨retB ?_, rfl⟩; rw [Bool.eq_iff_iff, hl]; simp only [Bool.or_eq_true, Bool.and_eq_true, beq_iff_eq, bne_iff_ne, ne_eq, true_iff]; omega)

theorem length_out (y m : Int) (w : World) (hm : m < 1 ∨ 12 < m) : Calls Tryz.prog 79 #[.int .i64 y, .int .i64 m] w fun e w' => e = .returned (.int .i64 (ln y m)) ∧ w = w' := by
  rw [ln_out y m hm]
  by_cases h : m < 1
  · go_enter Tryz.func79, Tryz.ntmps79
    go_wp2
    go_ret
    exact ⟨rfl, rfl⟩
  · have h2 : 12 < m := by omega
    go_enter Tryz.func79, Tryz.ntmps79
    go_wp2
    go_ret
    exact ⟨rfl, rfl⟩
theorem length_two (y : Int) (w : World) (hL : Lens w) : Calls Tryz.prog 79 #[.int .i64 y, .int .i64 2] w fun e w' => e = .returned (.int .i64 (ln y 2)) ∧ w = w' := by
  have hc := hL 1 (by decide)
  rw [show l0 (((1 : Nat) : Int) + 1) = 28 from rfl] at hc
  obtain ⟨b, hb⟩ : ∃ b, lp y = b := ⟨_, rfl⟩
  have C := leap_any y
  rw [hb] at C
  have hl : ln y 2 = if b = true then 29 else 28 := by unfold ln l0; rw [hb]; simp
  rw [hl]
  clear hl hL
  have CC := Lib.hid C
  clear C
  go_enter Tryz.func79, Tryz.ntmps79
  go_wp2_with fail
  (with_reducible refine (CC.out _).mono ?_)
  rintro e w1 ⟨rfl, rfl⟩
  cases b
  · go_wp2
    go_ret
    exact ⟨rfl, rfl⟩
  · go_wp2
    go_ret
    exact ⟨rfl, rfl⟩
theorem length_tab (y : Int) (k : Nat) (w : World) (hL : Lens w) (hk : k < 12) (h1 : k ≠ 1) : Calls Tryz.prog 79 #[.int .i64 y, .int .i64 ((k : Int) + 1)] w fun e w' => e = .returned (.int .i64 (ln y ((k : Int) + 1))) ∧ w = w' := by
  have hc := hL k hk
  have hl : ln y ((k : Int) + 1) = l0 ((k : Int) + 1) := by unfold ln; rw [if_neg (by omega)]
  rw [hl]
  generalize l0 ((k : Int) + 1) = v at *
  clear hL hl
  have h2 : ((k : Int) + 1 == 2) = false := beq_eq_false_iff_ne.2 (by omega)
  go_enter Tryz.func79, Tryz.ntmps79
  go_wp2
  go_ret
  exact ⟨rfl, rfl⟩
theorem length_any (y m : Int) (w : World) (hL : Lens w) : Calls Tryz.prog 79 #[.int .i64 y, .int .i64 m] w fun e w' => e = .returned (.int .i64 (ln y m)) ∧ w = w' := by
  by_cases h : m < 1 ∨ 12 < m
  · exact length_out y m w h
  · by_cases h2 : m = 2
    · subst h2; exact length_two y w hL
    · obtain ⟨k, rfl⟩ : ∃ k : Nat, m = (k : Int) + 1 := ⟨(m - 1).toNat, by omega⟩
      exact length_tab y k w hL (by omega) (by omega)

theorem aheadY_any (y : Int) (w : World) (h1 : 1 ≤ y) (h2 : y ≤ 100000) : Calls Tryz.prog 81 #[.int .i64 y] w fun e w' => e = .returned (.int .i64 (ah y)) ∧ w = w' := by
  have h0 : ah y = (y - 1) * 365 + (y - 1) / 4 - (y - 1) / 100 + (y - 1) / 400 := rfl
  rw [h0]
  go_enter Tryz.func81, Tryz.ntmps81
  go_wp2
  go_ret
  exact ⟨rfl, rfl⟩

/-- The day of the week: 0 is Monday. -/
def wk (n : Int) : Int := (n - 1) % 7
set_option maxHeartbeats 1000000 in
theorem yearOf_any (n y : Int) (w : World) (h1 : 1 ≤ y) (h2 : y ≤ 9999) (h3 : ah y < n) (h4 : n ≤ ah y + yl y) :
    Calls Tryz.prog 77 #[.int .i64 n] w fun e w' => e = .returned (.tuple #[.int .i64 y, .int .i64 (n - 1 - ah y)]) ∧ w = w' := by
  have p := ah_bd y h1 (by omega)
  have q := yl_bd y
  have K := Lib.hid (year_div n y h1 h3 h4)
  have n1 : 1 ≤ n := by omega
  have n2 : n ≤ 3652500 := by omega
  clear h1 h2 h3 h4 p q
  generalize n - 1 - ah y = g at *
  go_enter Tryz.func77, Tryz.ntmps77
  go_wp2
  all_goals
    obtain ⟨r, b, r2, c, er, eb, er2, ec, ey, eg⟩ := K.out
    simp only [← er] at *
    go_ret2
    exact ⟨ret2 (by omega) (by omega), rfl⟩
end Go.Proofs.YtjijgcgbnmobfaaGreatDoor
