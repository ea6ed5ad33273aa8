/- The reference of layer 15: names, kinds of names, periods a year, why terms may not be. -/
import Derived.Test.YtjijgcgbnmobfaaGreatDoorTeNum
import Derived.Test.YtjijgcgbnmobfaaGreatDoorTeBox
import Derived.Test.YtjijgcgbnmobfaaGreatDoorCShown
namespace Go.Proofs.YtjijgcgbnmobfaaGreatDoor
open Go.RowKit
set_option linter.unusedVariables false
set_option linter.unusedSimpArgs false

theorem rfreq15_1 (w : World) : Calls Tryz.prog 22 #[.int .i64 1] w fun e w' => e = .returned (.int .i64 12) ∧ w = w' := by
  go_enter Tryz.func22, Tryz.ntmps22
  go_wp2
  go_ret
  exact ⟨rfl, rfl⟩
theorem rfreq15_2 (w : World) : Calls Tryz.prog 22 #[.int .i64 2] w fun e w' => e = .returned (.int .i64 6) ∧ w = w' := by
  go_enter Tryz.func22, Tryz.ntmps22
  go_wp2
  go_ret
  exact ⟨rfl, rfl⟩
theorem rfreq15_3 (w : World) : Calls Tryz.prog 22 #[.int .i64 3] w fun e w' => e = .returned (.int .i64 4) ∧ w = w' := by
  go_enter Tryz.func22, Tryz.ntmps22
  go_wp2
  go_ret
  exact ⟨rfl, rfl⟩
theorem rfreq15_4 (w : World) : Calls Tryz.prog 22 #[.int .i64 4] w fun e w' => e = .returned (.int .i64 3) ∧ w = w' := by
  go_enter Tryz.func22, Tryz.ntmps22
  go_wp2
  go_ret
  exact ⟨rfl, rfl⟩
theorem rfreq15_6 (w : World) : Calls Tryz.prog 22 #[.int .i64 6] w fun e w' => e = .returned (.int .i64 2) ∧ w = w' := by
  go_enter Tryz.func22, Tryz.ntmps22
  go_wp2
  go_ret
  exact ⟨rfl, rfl⟩
theorem rfreq15_12 (w : World) : Calls Tryz.prog 22 #[.int .i64 12] w fun e w' => e = .returned (.int .i64 1) ∧ w = w' := by
  go_enter Tryz.func22, Tryz.ntmps22
  go_wp2
  go_ret
  exact ⟨rfl, rfl⟩
theorem rfreq15_out (m : Int) (w : World) (h : ¬ Mo m) : Calls Tryz.prog 22 #[.int .i64 m] w fun e w' => e = .returned (.int .i64 0) ∧ w = w' := by
  unfold Mo at h
  have n1 : (m == 1) = false := beq_eq_false_iff_ne.2 (by omega)
  have n2 : (m == 2) = false := beq_eq_false_iff_ne.2 (by omega)
  have n3 : (m == 3) = false := beq_eq_false_iff_ne.2 (by omega)
  have n4 : (m == 4) = false := beq_eq_false_iff_ne.2 (by omega)
  have n6 : (m == 6) = false := beq_eq_false_iff_ne.2 (by omega)
  have n12 : (m == 12) = false := beq_eq_false_iff_ne.2 (by omega)
  clear h
  go_enter Tryz.func22, Tryz.ntmps22
  go_wp2
  go_ret
  exact ⟨rfl, rfl⟩
theorem rfreq15 (m r : Int) (w : World) (h : fr m = r) : Calls Tryz.prog 22 #[.int .i64 m] w fun e w' => e = .returned (.int .i64 r) ∧ Below w.heap.size w w' := by
  subst h
  by_cases h : Mo m
  · rcases h with rfl | rfl | rfl | rfl | rfl | rfl
    · exact Calls.same (rfreq15_1 w)
    · exact Calls.same (rfreq15_2 w)
    · exact Calls.same (rfreq15_3 w)
    · exact Calls.same (rfreq15_4 w)
    · exact Calls.same (rfreq15_6 w)
    · exact Calls.same (rfreq15_12 w)
  · rw [fr_no h]
    exact Calls.same (rfreq15_out m w h)
end Go.Proofs.YtjijgcgbnmobfaaGreatDoor
