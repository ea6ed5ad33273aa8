/- Package thirty: what stands for a day of the month; a method of the embedded place, handed on as an expression. -/
import Derived.Test.YtkmjaoiehmddcaaDoorCBase
namespace Go.Proofs.YtkmjaoiehmddcaaDoor
open Go.RowKit
set_option linter.unusedVariables false

theorem Held.quad {w W : World} {fs : List Fact} (h : Held w fs W) (B : Nat) (u v x z : Value) (t : TypeId) (hB : W.heap.size = B) :
    Held w (.cell B 0 u :: .cell B 1 v :: .cell B 2 x :: .cell B 3 z :: .free B 0 :: .free B 1 :: .free B 2 :: .free B 3 :: fs) (W.alloc (.cells #[u, v, x, z] t)) := by
  subst hB
  exact ((((((((h.alloc _).add (f := .free W.heap.size 3) ⟨by simp, by simp [go_sem]⟩).add (f := .free W.heap.size 2) ⟨by simp, by simp [go_sem]⟩).add (f := .free W.heap.size 1) ⟨by simp, by simp [go_sem]⟩).add (f := .free W.heap.size 0) ⟨by simp, by simp [go_sem]⟩).add (f := .cell W.heap.size 3 z) (by simp [Fact.at, World.cell?_alloc_new])).add (f := .cell W.heap.size 2 x) (by simp [Fact.at, World.cell?_alloc_new])).add (f := .cell W.heap.size 1 v) (by simp [Fact.at, World.cell?_alloc_new])).add (f := .cell W.heap.size 0 u) (by simp [Fact.at, World.cell?_alloc_new])
/-- The day of a number, and whether it is its month's last one. -/
def SeatIs (n y m d : Int) (l : Bool) (e : Int) : Prop := (may y m d ∧ nb y m d = n ∧ decide (d = ln y m) = l ∧ e = 0) ∨ ((n < 1 ∨ 3652059 < n) ∧ y = 0 ∧ m = 0 ∧ d = 0 ∧ l = false ∧ e = 3)
/-- What reading the day of a number answers. -/
structure ReadSays : Prop where
  says : ∀ (n y m d e : Int) (l : Bool) (w : World), Lens w → SeatIs n y m d l e → Calls Tryd.prog 46 #[.int .i64 n] w fun e' w' => e' = .returned (.tuple #[.agg #[.int .i64 m, .int .i64 d, .bool l, .int .i64 y], .int .i64 e]) ∧ Below w.heap.size w w'

theorem p_own (m d : Int) (l : Bool) (w : World) :
    Calls Tryd.prog 27 #[.agg #[.int .i64 m, .int .i64 d, .bool l]] w fun e w' => e = .returned (.int .i64 d) ∧ Below w.heap.size w w' := by
  have A : ∀ w : World, Below w.heap.size w (w.alloc (.cells #[.int .i64 m, .int .i64 d, .bool l] 64)) := fun w => (Below.refl _ _).alloc (Nat.le_refl _) _
  go_enter Tryd.func27, Tryd.ntmps27
  go_wp2
  go_ret
  exact ⟨rfl, A _⟩

theorem p_full (m d : Int) (l : Bool) (w : World) :
    Calls Tryd.prog 29 #[.agg #[.int .i64 m, .int .i64 d, .bool l]] w fun e w' => e = .returned (.int .i64 (if l = true then 30 else d)) ∧ Below w.heap.size w w' := by
  have A : ∀ w : World, Below w.heap.size w (w.alloc (.cells #[.int .i64 m, .int .i64 d, .bool l] 64)) := fun w => (Below.refl _ _).alloc (Nat.le_refl _) _
  cases l
  · go_enter Tryd.func29, Tryd.ntmps29
    go_wp2
    go_ret
    exact ⟨rfl, A _⟩
  · go_enter Tryd.func29, Tryd.ntmps29
    go_wp2
    go_ret
    exact ⟨rfl, A _⟩

theorem p_cut (m d : Int) (l : Bool) (w : World) :
    Calls Tryd.prog 30 #[.agg #[.int .i64 m, .int .i64 d, .bool l]] w fun e w' => e = .returned (.int .i64 (min d 30)) ∧ Below w.heap.size w w' := by
  have A : ∀ w : World, Below w.heap.size w (w.alloc (.cells #[.int .i64 m, .int .i64 d, .bool l] 64)) := fun w => (Below.refl _ _).alloc (Nat.le_refl _) _
  go_enter Tryd.func30, Tryd.ntmps30
  go_wp2
  all_goals (go_ret; refine ⟨?_, A _⟩; first | rfl | (congr; omega))

theorem p_feb (m d : Int) (l b : Bool) (w : World) (h : decide (m = 2 ∧ l = true) = b) :
    Calls Tryd.prog 28 #[.agg #[.int .i64 m, .int .i64 d, .bool l]] w fun e w' => e = .returned (.bool b) ∧ Below w.heap.size w w' := by
  subst h
  by_cases hm : m = 2
  · subst hm
    cases l
    · have A : ∀ w : World, Below w.heap.size w (w.alloc (.cells #[.int .i64 2, .int .i64 d, .bool false] 64)) := fun w => (Below.refl _ _).alloc (Nat.le_refl _) _
      go_enter Tryd.func28, Tryd.ntmps28
      go_wp2
      go_ret
      exact ⟨rfl, A _⟩
    · have A : ∀ w : World, Below w.heap.size w (w.alloc (.cells #[.int .i64 2, .int .i64 d, .bool true] 64)) := fun w => (Below.refl _ _).alloc (Nat.le_refl _) _
      go_enter Tryd.func28, Tryd.ntmps28
      go_wp2
      go_ret
      exact ⟨rfl, A _⟩
  · have A : ∀ w : World, Below w.heap.size w (w.alloc (.cells #[.int .i64 m, .int .i64 d, .bool l] 64)) := fun w => (Below.refl _ _).alloc (Nat.le_refl _) _
    have t1 : (m == 2) = false := beq_eq_false_iff_ne.2 hm
    rw [decide_eq_false (show ¬ (m = 2 ∧ l = true) from fun h => hm h.1)]
    clear hm
    go_enter Tryd.func28, Tryd.ntmps28
    go_wp2
    go_ret
    exact ⟨rfl, A _⟩
end Go.Proofs.YtkmjaoiehmddcaaDoor
