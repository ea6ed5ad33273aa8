/- Package terms: names, kinds of names, periods a year; the names of ways to roll; the code of a refusal. -/
import Derived.Test.YtjijgcgbnmobfaaGreatDoorTeFacts
import Derived.Test.YtjijgcgbnmobfaaGreatDoorTeRef
import Derived.Test.YtjijgcgbnmobfaaGreatDoorCoTab
namespace Go.Proofs.YtjijgcgbnmobfaaGreatDoor
open Go.RowKit
set_option linter.unusedVariables false
set_option linter.unusedSimpArgs false

theorem rlname15_0 (w : World) (hL : FactsT w) : Calls Tryz.prog 52 #[.int .i64 0] w fun e w' => e = .returned (.string (rn 0)) ∧ w = w' := by
  have z := hL.2.1 0 (by decide)
  rw [show (((0 : Nat)) : Int) = 0 from rfl] at z
  have lz := cell_lt z
  clear hL
  go_enter Tryz.func52, Tryz.ntmps52
  go_wp2
  go_ret
  exact ⟨rfl, rfl⟩
theorem rlname15_1 (w : World) (hL : FactsT w) : Calls Tryz.prog 52 #[.int .i64 1] w fun e w' => e = .returned (.string (rn 1)) ∧ w = w' := by
  have z := hL.2.1 1 (by decide)
  rw [show (((1 : Nat)) : Int) = 1 from rfl] at z
  have lz := cell_lt z
  clear hL
  go_enter Tryz.func52, Tryz.ntmps52
  go_wp2
  go_ret
  exact ⟨rfl, rfl⟩
theorem rlname15_2 (w : World) (hL : FactsT w) : Calls Tryz.prog 52 #[.int .i64 2] w fun e w' => e = .returned (.string (rn 2)) ∧ w = w' := by
  have z := hL.2.1 2 (by decide)
  rw [show (((2 : Nat)) : Int) = 2 from rfl] at z
  have lz := cell_lt z
  clear hL
  go_enter Tryz.func52, Tryz.ntmps52
  go_wp2
  go_ret
  exact ⟨rfl, rfl⟩
theorem rlname15_3 (w : World) (hL : FactsT w) : Calls Tryz.prog 52 #[.int .i64 3] w fun e w' => e = .returned (.string (rn 3)) ∧ w = w' := by
  have z := hL.2.1 3 (by decide)
  rw [show (((3 : Nat)) : Int) = 3 from rfl] at z
  have lz := cell_lt z
  clear hL
  go_enter Tryz.func52, Tryz.ntmps52
  go_wp2
  go_ret
  exact ⟨rfl, rfl⟩
theorem rlname15_4 (w : World) (hL : FactsT w) : Calls Tryz.prog 52 #[.int .i64 4] w fun e w' => e = .returned (.string (rn 4)) ∧ w = w' := by
  have z := hL.2.1 4 (by decide)
  rw [show (((4 : Nat)) : Int) = 4 from rfl] at z
  have lz := cell_lt z
  clear hL
  go_enter Tryz.func52, Tryz.ntmps52
  go_wp2
  go_ret
  exact ⟨rfl, rfl⟩
theorem rlname15_out (k : Int) (w : World) (h : k < 0 ∨ 4 < k) : Calls Tryz.prog 52 #[.int .i64 k] w fun e w' => e = .returned (.string (rn k)) ∧ w = w' := by
  rw [rn_out k h]
  by_cases h0 : k < 0
  · have t0 : decide (k < 0) = true := decide_eq_true h0
    go_enter Tryz.func52, Tryz.ntmps52
    go_wp2
    go_ret
    exact ⟨rfl, rfl⟩
  · have t0 : decide (k < 0) = false := decide_eq_false h0
    have t1 : decide (k ≥ 5) = true := decide_eq_true (by omega)
    go_enter Tryz.func52, Tryz.ntmps52
    go_wp2
    go_ret
    exact ⟨rfl, rfl⟩
theorem rlname15 (k : Int) (s : ByteArray) (w : World) (hL : FactsT w) (hs : rn k = s) : Calls Tryz.prog 52 #[.int .i64 k] w fun e w' => e = .returned (.string s) ∧ Below w.heap.size w w' := by
  subst hs
  by_cases h : k < 0 ∨ 4 < k
  · exact Calls.same (rlname15_out k w h)
  · rcases of5 k (by omega) with rfl | rfl | rfl | rfl | rfl
    · exact Calls.same (rlname15_0 w hL)
    · exact Calls.same (rlname15_1 w hL)
    · exact Calls.same (rlname15_2 w hL)
    · exact Calls.same (rlname15_3 w hL)
    · exact Calls.same (rlname15_4 w hL)
theorem tname15_0 (w : World) (hL : FactsT w) : Calls Tryz.prog 50 #[.int .i64 0] w fun e w' => e = .returned (.string (tn 0)) ∧ w = w' := by
  have z := hL.2.2.1 0 (by decide)
  rw [show (((0 : Nat)) : Int) = 0 from rfl] at z
  have lz := cell_lt z
  clear hL
  go_enter Tryz.func50, Tryz.ntmps50
  go_wp2
  go_ret
  exact ⟨rfl, rfl⟩
theorem tname15_1 (w : World) (hL : FactsT w) : Calls Tryz.prog 50 #[.int .i64 1] w fun e w' => e = .returned (.string (tn 1)) ∧ w = w' := by
  have z := hL.2.2.1 1 (by decide)
  rw [show (((1 : Nat)) : Int) = 1 from rfl] at z
  have lz := cell_lt z
  clear hL
  go_enter Tryz.func50, Tryz.ntmps50
  go_wp2
  go_ret
  exact ⟨rfl, rfl⟩
theorem tname15_2 (w : World) (hL : FactsT w) : Calls Tryz.prog 50 #[.int .i64 2] w fun e w' => e = .returned (.string (tn 2)) ∧ w = w' := by
  have z := hL.2.2.1 2 (by decide)
  rw [show (((2 : Nat)) : Int) = 2 from rfl] at z
  have lz := cell_lt z
  clear hL
  go_enter Tryz.func50, Tryz.ntmps50
  go_wp2
  go_ret
  exact ⟨rfl, rfl⟩
theorem tname15_out (k : Int) (w : World) (h : k < 0 ∨ 2 < k) : Calls Tryz.prog 50 #[.int .i64 k] w fun e w' => e = .returned (.string (tn k)) ∧ w = w' := by
  rw [tn_out k h]
  by_cases h0 : k < 0
  · have t0 : decide (k < 0) = true := decide_eq_true h0
    go_enter Tryz.func50, Tryz.ntmps50
    go_wp2
    go_ret
    exact ⟨rfl, rfl⟩
  · have t0 : decide (k < 0) = false := decide_eq_false h0
    have t1 : decide (k ≥ 3) = true := decide_eq_true (by omega)
    go_enter Tryz.func50, Tryz.ntmps50
    go_wp2
    go_ret
    exact ⟨rfl, rfl⟩
theorem tname15 (k : Int) (s : ByteArray) (w : World) (hL : FactsT w) (hs : tn k = s) : Calls Tryz.prog 50 #[.int .i64 k] w fun e w' => e = .returned (.string s) ∧ Below w.heap.size w w' := by
  subst hs
  by_cases h : k < 0 ∨ 2 < k
  · exact Calls.same (tname15_out k w h)
  · rcases of3 k (by omega) with rfl | rfl | rfl
    · exact Calls.same (tname15_0 w hL)
    · exact Calls.same (tname15_1 w hL)
    · exact Calls.same (tname15_2 w hL)
theorem index15_0 (w : World) : (Instr.index 105 (.agg #[.string (tn 0), .string (tn 1), .string (tn 2)]) (.int .i64 0)).run Tryz.prog w = .ok (.string (tn 0)) w := by kernel_rfl
theorem index15_1 (w : World) : (Instr.index 105 (.agg #[.string (tn 0), .string (tn 1), .string (tn 2)]) (.int .i64 1)).run Tryz.prog w = .ok (.string (tn 1)) w := by kernel_rfl
theorem index15_2 (w : World) : (Instr.index 105 (.agg #[.string (tn 0), .string (tn 1), .string (tn 2)]) (.int .i64 2)).run Tryz.prog w = .ok (.string (tn 2)) w := by kernel_rfl

theorem tfreq15_1 (w : World) : Calls Tryz.prog 53 #[.int .i64 1] w fun e w' => e = .returned (.int .i64 12) ∧ w = w' := by
  go_enter Tryz.func53, Tryz.ntmps53
  go_wp2
  go_ret
  exact ⟨rfl, rfl⟩
theorem tfreq15_2 (w : World) : Calls Tryz.prog 53 #[.int .i64 2] w fun e w' => e = .returned (.int .i64 6) ∧ w = w' := by
  go_enter Tryz.func53, Tryz.ntmps53
  go_wp2
  go_ret
  exact ⟨rfl, rfl⟩
theorem tfreq15_3 (w : World) : Calls Tryz.prog 53 #[.int .i64 3] w fun e w' => e = .returned (.int .i64 4) ∧ w = w' := by
  go_enter Tryz.func53, Tryz.ntmps53
  go_wp2
  go_ret
  exact ⟨rfl, rfl⟩
theorem tfreq15_4 (w : World) : Calls Tryz.prog 53 #[.int .i64 4] w fun e w' => e = .returned (.int .i64 3) ∧ w = w' := by
  go_enter Tryz.func53, Tryz.ntmps53
  go_wp2
  go_ret
  exact ⟨rfl, rfl⟩
theorem tfreq15_6 (w : World) : Calls Tryz.prog 53 #[.int .i64 6] w fun e w' => e = .returned (.int .i64 2) ∧ w = w' := by
  go_enter Tryz.func53, Tryz.ntmps53
  go_wp2
  go_ret
  exact ⟨rfl, rfl⟩
theorem tfreq15_12 (w : World) : Calls Tryz.prog 53 #[.int .i64 12] w fun e w' => e = .returned (.int .i64 1) ∧ w = w' := by
  go_enter Tryz.func53, Tryz.ntmps53
  go_wp2
  go_ret
  exact ⟨rfl, rfl⟩
theorem tfreq15_out (m : Int) (w : World) (h : ¬ Mo m) : Calls Tryz.prog 53 #[.int .i64 m] w fun e w' => e = .returned (.int .i64 0) ∧ w = w' := by
  unfold Mo at h
  have n1 : (m == 1) = false := beq_eq_false_iff_ne.2 (by omega)
  have n2 : (m == 2) = false := beq_eq_false_iff_ne.2 (by omega)
  have n3 : (m == 3) = false := beq_eq_false_iff_ne.2 (by omega)
  have n4 : (m == 4) = false := beq_eq_false_iff_ne.2 (by omega)
  have n6 : (m == 6) = false := beq_eq_false_iff_ne.2 (by omega)
  have n12 : (m == 12) = false := beq_eq_false_iff_ne.2 (by omega)
  clear h
  go_enter Tryz.func53, Tryz.ntmps53
  go_wp2
  go_ret
  exact ⟨rfl, rfl⟩
theorem tfreq15 (m r : Int) (w : World) (h : fr m = r) : Calls Tryz.prog 53 #[.int .i64 m] w fun e w' => e = .returned (.int .i64 r) ∧ Below w.heap.size w w' := by
  subst h
  by_cases h : Mo m
  · rcases h with rfl | rfl | rfl | rfl | rfl | rfl
    · exact Calls.same (tfreq15_1 w)
    · exact Calls.same (tfreq15_2 w)
    · exact Calls.same (tfreq15_3 w)
    · exact Calls.same (tfreq15_4 w)
    · exact Calls.same (tfreq15_6 w)
    · exact Calls.same (tfreq15_12 w)
  · rw [fr_no h]
    exact Calls.same (tfreq15_out m w h)
end Go.Proofs.YtjijgcgbnmobfaaGreatDoor
