/- The reference of layer 10: the way of a name. -/
import Derived.Test.YtkmchbllnfoccaaGreatDoorCoRef
namespace Go.Proofs.YtkmchbllnfoccaaGreatDoor
open Go.RowKit
set_option linter.unusedVariables false
set_option linter.unusedSimpArgs false

theorem rkind_0 (s : ByteArray) (w : World) (d0 : ((nm 0).toList == s.toList) = true) : Calls Tryz.prog 13 #[.string s] w fun e w' => e = .returned (.tuple #[.int .i64 0, .int .i64 0]) ∧ w' = w := by
  go_enter Tryz.func13, Tryz.ntmps13
  go_wp2_with fail
  refine wp_loop_rounds 1 ?_
  rw [rounds_succ]
  go_wp2_with fail
  (with_reducible refine (rname_any 0 _).mono ?_)
  rintro e w1 ⟨rfl, rfl⟩
  go_wp2_with fail
  go_ret2
  exact ⟨rfl, rfl⟩
theorem rkind_1 (s : ByteArray) (w : World) (d0 : ((nm 0).toList == s.toList) = false) (d1 : ((nm 1).toList == s.toList) = true) : Calls Tryz.prog 13 #[.string s] w fun e w' => e = .returned (.tuple #[.int .i64 1, .int .i64 0]) ∧ w' = w := by
  go_enter Tryz.func13, Tryz.ntmps13
  go_wp2_with fail
  refine wp_loop_rounds 2 ?_
  rw [rounds_succ]
  go_wp2_with fail
  (with_reducible refine (rname_any 0 _).mono ?_)
  rintro e w1 ⟨rfl, rfl⟩
  go_wp2_with fail
  rw [rounds_succ]
  go_wp2_with fail
  (with_reducible refine (rname_any 1 _).mono ?_)
  rintro e w1 ⟨rfl, rfl⟩
  go_wp2_with fail
  go_ret2
  exact ⟨rfl, rfl⟩
theorem rkind_2 (s : ByteArray) (w : World) (d0 : ((nm 0).toList == s.toList) = false) (d1 : ((nm 1).toList == s.toList) = false) (d2 : ((nm 2).toList == s.toList) = true) : Calls Tryz.prog 13 #[.string s] w fun e w' => e = .returned (.tuple #[.int .i64 2, .int .i64 0]) ∧ w' = w := by
  go_enter Tryz.func13, Tryz.ntmps13
  go_wp2_with fail
  refine wp_loop_rounds 3 ?_
  rw [rounds_succ]
  go_wp2_with fail
  (with_reducible refine (rname_any 0 _).mono ?_)
  rintro e w1 ⟨rfl, rfl⟩
  go_wp2_with fail
  rw [rounds_succ]
  go_wp2_with fail
  (with_reducible refine (rname_any 1 _).mono ?_)
  rintro e w1 ⟨rfl, rfl⟩
  go_wp2_with fail
  rw [rounds_succ]
  go_wp2_with fail
  (with_reducible refine (rname_any 2 _).mono ?_)
  rintro e w1 ⟨rfl, rfl⟩
  go_wp2_with fail
  go_ret2
  exact ⟨rfl, rfl⟩
theorem rkind_3 (s : ByteArray) (w : World) (d0 : ((nm 0).toList == s.toList) = false) (d1 : ((nm 1).toList == s.toList) = false) (d2 : ((nm 2).toList == s.toList) = false) (d3 : ((nm 3).toList == s.toList) = true) : Calls Tryz.prog 13 #[.string s] w fun e w' => e = .returned (.tuple #[.int .i64 3, .int .i64 0]) ∧ w' = w := by
  go_enter Tryz.func13, Tryz.ntmps13
  go_wp2_with fail
  refine wp_loop_rounds 4 ?_
  rw [rounds_succ]
  go_wp2_with fail
  (with_reducible refine (rname_any 0 _).mono ?_)
  rintro e w1 ⟨rfl, rfl⟩
  go_wp2_with fail
  rw [rounds_succ]
  go_wp2_with fail
  (with_reducible refine (rname_any 1 _).mono ?_)
  rintro e w1 ⟨rfl, rfl⟩
  go_wp2_with fail
  rw [rounds_succ]
  go_wp2_with fail
  (with_reducible refine (rname_any 2 _).mono ?_)
  rintro e w1 ⟨rfl, rfl⟩
  go_wp2_with fail
  rw [rounds_succ]
  go_wp2_with fail
  (with_reducible refine (rname_any 3 _).mono ?_)
  rintro e w1 ⟨rfl, rfl⟩
  go_wp2_with fail
  go_ret2
  exact ⟨rfl, rfl⟩
theorem rkind_4 (s : ByteArray) (w : World) (d0 : ((nm 0).toList == s.toList) = false) (d1 : ((nm 1).toList == s.toList) = false) (d2 : ((nm 2).toList == s.toList) = false) (d3 : ((nm 3).toList == s.toList) = false) (d4 : ((nm 4).toList == s.toList) = true) : Calls Tryz.prog 13 #[.string s] w fun e w' => e = .returned (.tuple #[.int .i64 4, .int .i64 0]) ∧ w' = w := by
  go_enter Tryz.func13, Tryz.ntmps13
  go_wp2_with fail
  refine wp_loop_rounds 5 ?_
  rw [rounds_succ]
  go_wp2_with fail
  (with_reducible refine (rname_any 0 _).mono ?_)
  rintro e w1 ⟨rfl, rfl⟩
  go_wp2_with fail
  rw [rounds_succ]
  go_wp2_with fail
  (with_reducible refine (rname_any 1 _).mono ?_)
  rintro e w1 ⟨rfl, rfl⟩
  go_wp2_with fail
  rw [rounds_succ]
  go_wp2_with fail
  (with_reducible refine (rname_any 2 _).mono ?_)
  rintro e w1 ⟨rfl, rfl⟩
  go_wp2_with fail
  rw [rounds_succ]
  go_wp2_with fail
  (with_reducible refine (rname_any 3 _).mono ?_)
  rintro e w1 ⟨rfl, rfl⟩
  go_wp2_with fail
  rw [rounds_succ]
  go_wp2_with fail
  (with_reducible refine (rname_any 4 _).mono ?_)
  rintro e w1 ⟨rfl, rfl⟩
  go_wp2_with fail
  go_ret2
  exact ⟨rfl, rfl⟩
theorem rkind_5 (s : ByteArray) (w : World) (d0 : ((nm 0).toList == s.toList) = false) (d1 : ((nm 1).toList == s.toList) = false) (d2 : ((nm 2).toList == s.toList) = false) (d3 : ((nm 3).toList == s.toList) = false) (d4 : ((nm 4).toList == s.toList) = false) (d5 : ((nm 5).toList == s.toList) = true) : Calls Tryz.prog 13 #[.string s] w fun e w' => e = .returned (.tuple #[.int .i64 5, .int .i64 0]) ∧ w' = w := by
  go_enter Tryz.func13, Tryz.ntmps13
  go_wp2_with fail
  refine wp_loop_rounds 6 ?_
  rw [rounds_succ]
  go_wp2_with fail
  (with_reducible refine (rname_any 0 _).mono ?_)
  rintro e w1 ⟨rfl, rfl⟩
  go_wp2_with fail
  rw [rounds_succ]
  go_wp2_with fail
  (with_reducible refine (rname_any 1 _).mono ?_)
  rintro e w1 ⟨rfl, rfl⟩
  go_wp2_with fail
  rw [rounds_succ]
  go_wp2_with fail
  (with_reducible refine (rname_any 2 _).mono ?_)
  rintro e w1 ⟨rfl, rfl⟩
  go_wp2_with fail
  rw [rounds_succ]
  go_wp2_with fail
  (with_reducible refine (rname_any 3 _).mono ?_)
  rintro e w1 ⟨rfl, rfl⟩
  go_wp2_with fail
  rw [rounds_succ]
  go_wp2_with fail
  (with_reducible refine (rname_any 4 _).mono ?_)
  rintro e w1 ⟨rfl, rfl⟩
  go_wp2_with fail
  rw [rounds_succ]
  go_wp2_with fail
  (with_reducible refine (rname_any 5 _).mono ?_)
  rintro e w1 ⟨rfl, rfl⟩
  go_wp2_with fail
  go_ret2
  exact ⟨rfl, rfl⟩
theorem rkind_6 (s : ByteArray) (w : World) (d0 : ((nm 0).toList == s.toList) = false) (d1 : ((nm 1).toList == s.toList) = false) (d2 : ((nm 2).toList == s.toList) = false) (d3 : ((nm 3).toList == s.toList) = false) (d4 : ((nm 4).toList == s.toList) = false) (d5 : ((nm 5).toList == s.toList) = false) (d6 : ((nm 6).toList == s.toList) = true) : Calls Tryz.prog 13 #[.string s] w fun e w' => e = .returned (.tuple #[.int .i64 6, .int .i64 0]) ∧ w' = w := by
  go_enter Tryz.func13, Tryz.ntmps13
  go_wp2_with fail
  refine wp_loop_rounds 7 ?_
  rw [rounds_succ]
  go_wp2_with fail
  (with_reducible refine (rname_any 0 _).mono ?_)
  rintro e w1 ⟨rfl, rfl⟩
  go_wp2_with fail
  rw [rounds_succ]
  go_wp2_with fail
  (with_reducible refine (rname_any 1 _).mono ?_)
  rintro e w1 ⟨rfl, rfl⟩
  go_wp2_with fail
  rw [rounds_succ]
  go_wp2_with fail
  (with_reducible refine (rname_any 2 _).mono ?_)
  rintro e w1 ⟨rfl, rfl⟩
  go_wp2_with fail
  rw [rounds_succ]
  go_wp2_with fail
  (with_reducible refine (rname_any 3 _).mono ?_)
  rintro e w1 ⟨rfl, rfl⟩
  go_wp2_with fail
  rw [rounds_succ]
  go_wp2_with fail
  (with_reducible refine (rname_any 4 _).mono ?_)
  rintro e w1 ⟨rfl, rfl⟩
  go_wp2_with fail
  rw [rounds_succ]
  go_wp2_with fail
  (with_reducible refine (rname_any 5 _).mono ?_)
  rintro e w1 ⟨rfl, rfl⟩
  go_wp2_with fail
  rw [rounds_succ]
  go_wp2_with fail
  (with_reducible refine (rname_any 6 _).mono ?_)
  rintro e w1 ⟨rfl, rfl⟩
  go_wp2_with fail
  go_ret2
  exact ⟨rfl, rfl⟩
theorem rkind_7 (s : ByteArray) (w : World) (d0 : ((nm 0).toList == s.toList) = false) (d1 : ((nm 1).toList == s.toList) = false) (d2 : ((nm 2).toList == s.toList) = false) (d3 : ((nm 3).toList == s.toList) = false) (d4 : ((nm 4).toList == s.toList) = false) (d5 : ((nm 5).toList == s.toList) = false) (d6 : ((nm 6).toList == s.toList) = false) : Calls Tryz.prog 13 #[.string s] w fun e w' => e = .returned (.tuple #[.int .i64 0, .int .i64 10]) ∧ w' = w := by
  go_enter Tryz.func13, Tryz.ntmps13
  go_wp2_with fail
  refine wp_loop_rounds 8 ?_
  rw [rounds_succ]
  go_wp2_with fail
  (with_reducible refine (rname_any 0 _).mono ?_)
  rintro e w1 ⟨rfl, rfl⟩
  go_wp2_with fail
  rw [rounds_succ]
  go_wp2_with fail
  (with_reducible refine (rname_any 1 _).mono ?_)
  rintro e w1 ⟨rfl, rfl⟩
  go_wp2_with fail
  rw [rounds_succ]
  go_wp2_with fail
  (with_reducible refine (rname_any 2 _).mono ?_)
  rintro e w1 ⟨rfl, rfl⟩
  go_wp2_with fail
  rw [rounds_succ]
  go_wp2_with fail
  (with_reducible refine (rname_any 3 _).mono ?_)
  rintro e w1 ⟨rfl, rfl⟩
  go_wp2_with fail
  rw [rounds_succ]
  go_wp2_with fail
  (with_reducible refine (rname_any 4 _).mono ?_)
  rintro e w1 ⟨rfl, rfl⟩
  go_wp2_with fail
  rw [rounds_succ]
  go_wp2_with fail
  (with_reducible refine (rname_any 5 _).mono ?_)
  rintro e w1 ⟨rfl, rfl⟩
  go_wp2_with fail
  rw [rounds_succ]
  go_wp2_with fail
  (with_reducible refine (rname_any 6 _).mono ?_)
  rintro e w1 ⟨rfl, rfl⟩
  go_wp2_with fail
  rw [rounds_succ]
  go_wp2_with fail
  go_ret2
  exact ⟨rfl, rfl⟩
theorem rkind_any (s : ByteArray) (w : World) : Calls Tryz.prog 13 #[.string s] w fun e w' => e = .returned (.tuple #[.int .i64 (kd s).1, .int .i64 (kd s).2]) ∧ w' = w := by
  by_cases h0 : ((nm 0).toList == s.toList) = true
  · have e : kd s = (0, 0) := by unfold kd; rw [if_pos h0]
    rw [e]
    exact rkind_0 s w  h0
  by_cases h1 : ((nm 1).toList == s.toList) = true
  · have e : kd s = (1, 0) := by unfold kd; rw [if_neg h0, if_pos h1]
    rw [e]
    exact rkind_1 s w (Bool.eq_false_iff.2 h0) h1
  by_cases h2 : ((nm 2).toList == s.toList) = true
  · have e : kd s = (2, 0) := by unfold kd; rw [if_neg h0, if_neg h1, if_pos h2]
    rw [e]
    exact rkind_2 s w (Bool.eq_false_iff.2 h0) (Bool.eq_false_iff.2 h1) h2
  by_cases h3 : ((nm 3).toList == s.toList) = true
  · have e : kd s = (3, 0) := by unfold kd; rw [if_neg h0, if_neg h1, if_neg h2, if_pos h3]
    rw [e]
    exact rkind_3 s w (Bool.eq_false_iff.2 h0) (Bool.eq_false_iff.2 h1) (Bool.eq_false_iff.2 h2) h3
  by_cases h4 : ((nm 4).toList == s.toList) = true
  · have e : kd s = (4, 0) := by unfold kd; rw [if_neg h0, if_neg h1, if_neg h2, if_neg h3, if_pos h4]
    rw [e]
    exact rkind_4 s w (Bool.eq_false_iff.2 h0) (Bool.eq_false_iff.2 h1) (Bool.eq_false_iff.2 h2) (Bool.eq_false_iff.2 h3) h4
  by_cases h5 : ((nm 5).toList == s.toList) = true
  · have e : kd s = (5, 0) := by unfold kd; rw [if_neg h0, if_neg h1, if_neg h2, if_neg h3, if_neg h4, if_pos h5]
    rw [e]
    exact rkind_5 s w (Bool.eq_false_iff.2 h0) (Bool.eq_false_iff.2 h1) (Bool.eq_false_iff.2 h2) (Bool.eq_false_iff.2 h3) (Bool.eq_false_iff.2 h4) h5
  by_cases h6 : ((nm 6).toList == s.toList) = true
  · have e : kd s = (6, 0) := by unfold kd; rw [if_neg h0, if_neg h1, if_neg h2, if_neg h3, if_neg h4, if_neg h5, if_pos h6]
    rw [e]
    exact rkind_6 s w (Bool.eq_false_iff.2 h0) (Bool.eq_false_iff.2 h1) (Bool.eq_false_iff.2 h2) (Bool.eq_false_iff.2 h3) (Bool.eq_false_iff.2 h4) (Bool.eq_false_iff.2 h5) h6
  have e : kd s = (0, 10) := by unfold kd; rw [if_neg h0, if_neg h1, if_neg h2, if_neg h3, if_neg h4, if_neg h5, if_neg h6]
  rw [e]
  exact rkind_7 s w (Bool.eq_false_iff.2 h0) (Bool.eq_false_iff.2 h1) (Bool.eq_false_iff.2 h2) (Bool.eq_false_iff.2 h3) (Bool.eq_false_iff.2 h4) (Bool.eq_false_iff.2 h5) (Bool.eq_false_iff.2 h6)
end Go.Proofs.YtkmchbllnfoccaaGreatDoor
