/- Layer 13 in plain numbers: calendars, which may be, days of business. No program in this text. -/
import Derived.Test.YtkbhicdcjfpbaaaDoorRuNum
namespace Go.Proofs.YtkbhicdcjfpbaaaDoor
set_option linter.unusedVariables false
set_option linter.unusedSimpArgs false

/-- A calendar: days of the week that are off, rules, days by themselves. -/
structure Ca where
  o : Nat → Bool
  nr : Nat
  R : Nat → Ru
  nd : Nat
  X : Nat → Int
def Ca.May (c : Ca) : Prop := (∃ i, i < 7 ∧ c.o i = false) ∧ c.nr ≤ 100 ∧ c.nd ≤ 1000 ∧ (∀ j, j < c.nr → (c.R j).May) ∧ (∀ j, j < c.nd → 1 ≤ c.X j ∧ c.X j ≤ 3652059) ∧ ∀ j, j + 1 < c.nd → c.X j < c.X (j + 1)
def Ca.Is (c : Ca) (n : Int) : Prop := (1 ≤ n ∧ n ≤ 3652059) ∧ c.o (wk n).toNat = false ∧ (∀ j, j < c.nd → c.X j ≠ n) ∧ ∀ j, j < c.nr → ¬ (c.R j).Is n
/-- Few rules, few days: what no reckoning outgrows. -/
def Ca.Small (c : Ca) : Prop := c.nr ≤ 200 ∧ c.nd ≤ 2000
theorem wk_bd (n : Int) : 0 ≤ wk n ∧ wk n ≤ 6 := by unfold wk; omega
theorem wk_nat (n : Int) : ∃ v : Nat, wk n = v ∧ v < 7 := ⟨(wk n).toNat, by have := wk_bd n; omega, by have := wk_bd n; omega⟩
theorem bool_is {b : Bool} {P : Prop} (h : b = true ↔ P) (hP : P) : b = true := h.2 hP
theorem bool_not {b : Bool} {P : Prop} (h : b = true ↔ P) (hP : ¬ P) : b = false := by
  cases b
  · rfl
  · exact absurd (h.1 rfl) hP
open Classical in
theorem bool_of (P : Prop) : ∃ b : Bool, (b = true ↔ P) := ⟨decide P, by simp⟩
theorem Ca.May.rules {c : Ca} (h : c.May) : ∀ j, j < c.nr → (c.R j).May := by obtain ⟨_, _, _, h, _, _⟩ := h; exact h
/-- Is a day one of business, as a bool; how many there are of k days from a on. -/
noncomputable def Ca.ib (c : Ca) (n : Int) : Bool := @decide (c.Is n) (Classical.propDecidable _)
theorem Ca.ib_iff {c : Ca} {n : Int} : c.ib n = true ↔ c.Is n := by
  unfold Ca.ib
  exact @decide_eq_true_iff _ (Classical.propDecidable _)
noncomputable def Ca.cnt (c : Ca) (a : Int) : Nat → Int
  | 0 => 0
  | k + 1 => c.cnt a k + if c.ib (a + k) = true then 1 else 0
theorem Ca.cnt_succ (c : Ca) (a : Int) (k : Nat) : c.cnt a (k + 1) = c.cnt a k + if c.ib (a + k) = true then 1 else 0 := rfl
theorem Ca.cnt_bd (c : Ca) (a : Int) : ∀ k : Nat, 0 ≤ c.cnt a k ∧ c.cnt a k ≤ k
  | 0 => by unfold Ca.cnt; omega
  | k + 1 => by
    have := Ca.cnt_bd c a k
    rw [Ca.cnt_succ]
    split <;> omega
theorem Ca.cnt_add (c : Ca) (a : Int) (k : Nat) : ∀ m : Nat, c.cnt a (k + m) = c.cnt a k + c.cnt (a + k) m
  | 0 => by rw [Nat.add_zero]; show _ = _ + 0; omega
  | m + 1 => by
    rw [← Nat.add_assoc, Ca.cnt_succ, Ca.cnt_succ, Ca.cnt_add c a k m]
    have : a + ((k + m : Nat) : Int) = a + k + m := by omega
    rw [this]
    omega
def dy (n : Int) : Prop := 1 ≤ n ∧ n ≤ 3652059
/-- How many days of business: what Many answers. -/
def ManyIs (c : Ca) (a b n e : Int) : Prop :=
  (dy a ∧ dy b ∧ a ≤ b ∧ b - a ≤ 4000 ∧ n = c.cnt a (b - a).toNat ∧ e = 0) ∨ (¬ (dy a ∧ dy b) ∧ n = 0 ∧ e = 3) ∨ ((dy a ∧ dy b) ∧ b < a ∧ n = 0 ∧ e = 4) ∨ ((dy a ∧ dy b) ∧ a ≤ b ∧ 4000 < b - a ∧ n = 0 ∧ e = 2)
theorem many_is (c : Ca) (a b : Int) : ∃ n e, ManyIs c a b n e := by
  by_cases h : dy a ∧ dy b
  · by_cases g : a ≤ b
    · by_cases k : b - a ≤ 4000
      · exact ⟨_, _, Or.inl ⟨h.1, h.2, g, k, rfl, rfl⟩⟩
      · exact ⟨_, _, Or.inr (Or.inr (Or.inr ⟨h, g, by omega, rfl, rfl⟩))⟩
    · exact ⟨_, _, Or.inr (Or.inr (Or.inl ⟨h, by omega, rfl, rfl⟩))⟩
  · exact ⟨_, _, Or.inr (Or.inl ⟨h, rfl, rfl⟩)⟩
end Go.Proofs.YtkbhicdcjfpbaaaDoor
