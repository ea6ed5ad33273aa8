/- The reference of layer 15: names, kinds of names, periods a year, why terms may not be. -/
import Derived.Test.YtmaioofcmgaakaaGreatDoorTeNum
import Derived.Test.YtmaioofcmgaakaaGreatDoorTeBox
import Derived.Test.YtmaioofcmgaakaaGreatDoorCShown
namespace Go.Proofs.YtmaioofcmgaakaaGreatDoor
open Go.RowKit
set_option linter.unusedVariables false
set_option linter.unusedSimpArgs false

theorem rname15_0 (w : World) : Calls Tryz.prog 14 #[.int .i64 0] w fun e w' => e = .returned (.string (tn 0)) ∧ Below w.heap.size w w' := by
  have H := Held.start w
  rw [tn_0]
  go_enter Tryz.func14, Tryz.ntmps14
  go_wp2
  go_ret
  exact ⟨rfl, (H.alloc _).old⟩
theorem rname15_1 (w : World) : Calls Tryz.prog 14 #[.int .i64 1] w fun e w' => e = .returned (.string (tn 1)) ∧ Below w.heap.size w w' := by
  have H := Held.start w
  rw [tn_1]
  go_enter Tryz.func14, Tryz.ntmps14
  go_wp2
  go_ret
  exact ⟨rfl, (H.alloc _).old⟩
theorem rname15_2 (w : World) : Calls Tryz.prog 14 #[.int .i64 2] w fun e w' => e = .returned (.string (tn 2)) ∧ Below w.heap.size w w' := by
  have H := Held.start w
  rw [tn_2]
  go_enter Tryz.func14, Tryz.ntmps14
  go_wp2
  go_ret
  exact ⟨rfl, (H.alloc _).old⟩
theorem rname15_out (k : Int) (w : World) (h : k < 0 ∨ 2 < k) : Calls Tryz.prog 14 #[.int .i64 k] w fun e w' => e = .returned (.string (tn k)) ∧ Below w.heap.size w w' := by
  have H := Held.start w
  rw [tn_out k h]
  by_cases h0 : k ≥ 0
  · have t0 : decide (k ≥ 0) = true := decide_eq_true h0
    have t1 : decide (k < 3) = false := decide_eq_false (by omega)
    go_enter Tryz.func14, Tryz.ntmps14
    go_wp2
    go_ret
    exact ⟨rfl, (H.alloc _).old⟩
  · have t0 : decide (k ≥ 0) = false := decide_eq_false h0
    go_enter Tryz.func14, Tryz.ntmps14
    go_wp2
    go_ret
    exact ⟨rfl, (H.alloc _).old⟩
theorem rname15 (k : Int) (s : ByteArray) (w : World) (hs : tn k = s) : Calls Tryz.prog 14 #[.int .i64 k] w fun e w' => e = .returned (.string s) ∧ Below w.heap.size w w' := by
  subst hs
  by_cases h : k < 0 ∨ 2 < k
  · exact rname15_out k w h
  · rcases of3 k (by omega) with rfl | rfl | rfl
    · exact rname15_0 w
    · exact rname15_1 w
    · exact rname15_2 w

theorem rkind15_0 (s : ByteArray) (w : World) (d0 : ((tn 0).toList == s.toList) = true) : Calls Tryz.prog 10 #[.string s] w fun e w' => e = .returned (.tuple #[.int .i64 0, .int .i64 0]) ∧ Below w.heap.size w w' := by
  have H := Held.start w
  go_enter Tryz.func10, Tryz.ntmps10
  go_wp2_with fail
  refine wp_loop_rounds 1 ?_
  rw [rounds_succ]
  go_wp2_with fail
  (with_reducible refine (rname15 0 _ _ rfl).mono ?_)
  rintro e v0 ⟨rfl, hb⟩
  replace H := H.below hb
  clear hb
  go_wp2_with fail
  go_ret2
  exact ⟨rfl, H.old⟩

theorem rkind15_1 (s : ByteArray) (w : World) (d0 : ((tn 0).toList == s.toList) = false) (d1 : ((tn 1).toList == s.toList) = true) : Calls Tryz.prog 10 #[.string s] w fun e w' => e = .returned (.tuple #[.int .i64 1, .int .i64 0]) ∧ Below w.heap.size w w' := by
  have H := Held.start w
  go_enter Tryz.func10, Tryz.ntmps10
  go_wp2_with fail
  refine wp_loop_rounds 2 ?_
  rw [rounds_succ]
  go_wp2_with fail
  (with_reducible refine (rname15 0 _ _ rfl).mono ?_)
  rintro e v0 ⟨rfl, hb⟩
  replace H := H.below hb
  clear hb
  go_wp2_with fail
  rw [rounds_succ]
  go_wp2_with fail
  (with_reducible refine (rname15 1 _ _ rfl).mono ?_)
  rintro e v1 ⟨rfl, hb⟩
  replace H := H.below hb
  clear hb
  go_wp2_with fail
  go_ret2
  exact ⟨rfl, H.old⟩

theorem rkind15_2 (s : ByteArray) (w : World) (d0 : ((tn 0).toList == s.toList) = false) (d1 : ((tn 1).toList == s.toList) = false) (d2 : ((tn 2).toList == s.toList) = true) : Calls Tryz.prog 10 #[.string s] w fun e w' => e = .returned (.tuple #[.int .i64 2, .int .i64 0]) ∧ Below w.heap.size w w' := by
  have H := Held.start w
  go_enter Tryz.func10, Tryz.ntmps10
  go_wp2_with fail
  refine wp_loop_rounds 3 ?_
  rw [rounds_succ]
  go_wp2_with fail
  (with_reducible refine (rname15 0 _ _ rfl).mono ?_)
  rintro e v0 ⟨rfl, hb⟩
  replace H := H.below hb
  clear hb
  go_wp2_with fail
  rw [rounds_succ]
  go_wp2_with fail
  (with_reducible refine (rname15 1 _ _ rfl).mono ?_)
  rintro e v1 ⟨rfl, hb⟩
  replace H := H.below hb
  clear hb
  go_wp2_with fail
  rw [rounds_succ]
  go_wp2_with fail
  (with_reducible refine (rname15 2 _ _ rfl).mono ?_)
  rintro e v2 ⟨rfl, hb⟩
  replace H := H.below hb
  clear hb
  go_wp2_with fail
  go_ret2
  exact ⟨rfl, H.old⟩

theorem rkind15_3 (s : ByteArray) (w : World) (d0 : ((tn 0).toList == s.toList) = false) (d1 : ((tn 1).toList == s.toList) = false) (d2 : ((tn 2).toList == s.toList) = false) : Calls Tryz.prog 10 #[.string s] w fun e w' => e = .returned (.tuple #[.int .i64 0, .int .i64 10]) ∧ Below w.heap.size w w' := by
  have H := Held.start w
  go_enter Tryz.func10, Tryz.ntmps10
  go_wp2_with fail
  refine wp_loop_rounds 4 ?_
  rw [rounds_succ]
  go_wp2_with fail
  (with_reducible refine (rname15 0 _ _ rfl).mono ?_)
  rintro e v0 ⟨rfl, hb⟩
  replace H := H.below hb
  clear hb
  go_wp2_with fail
  rw [rounds_succ]
  go_wp2_with fail
  (with_reducible refine (rname15 1 _ _ rfl).mono ?_)
  rintro e v1 ⟨rfl, hb⟩
  replace H := H.below hb
  clear hb
  go_wp2_with fail
  rw [rounds_succ]
  go_wp2_with fail
  (with_reducible refine (rname15 2 _ _ rfl).mono ?_)
  rintro e v2 ⟨rfl, hb⟩
  replace H := H.below hb
  clear hb
  go_wp2_with fail
  rw [rounds_succ]
  go_wp2_with fail
  go_ret2
  exact ⟨rfl, H.old⟩

theorem rkind15 (s : ByteArray) (k e : Int) (w : World) (h : tk s = (k, e)) : Calls Tryz.prog 10 #[.string s] w fun e' w' => e' = .returned (.tuple #[.int .i64 k, .int .i64 e]) ∧ Below w.heap.size w w' := by
  have h1 : (tk s).1 = k := by rw [h]
  have h2 : (tk s).2 = e := by rw [h]
  subst h1 h2
  clear h
  by_cases h0 : ((tn 0).toList == s.toList) = true
  · have g1 : tk s = (0, 0) := by
      unfold tk
      rw [if_pos h0]
    rw [g1]
    exact rkind15_0 s w  h0
  have q0 := Bool.eq_false_iff.2 h0
  by_cases h1 : ((tn 1).toList == s.toList) = true
  · have g1 : tk s = (1, 0) := by
      unfold tk
      rw [if_neg (by rw [q0]; decide), if_pos h1]
    rw [g1]
    exact rkind15_1 s w  q0 h1
  have q1 := Bool.eq_false_iff.2 h1
  by_cases h2 : ((tn 2).toList == s.toList) = true
  · have g1 : tk s = (2, 0) := by
      unfold tk
      rw [if_neg (by rw [q0]; decide), if_neg (by rw [q1]; decide), if_pos h2]
    rw [g1]
    exact rkind15_2 s w  q0 q1 h2
  have q2 := Bool.eq_false_iff.2 h2
  have g1 : tk s = (0, 10) := by
    unfold tk
    rw [if_neg (by rw [q0]; decide), if_neg (by rw [q1]; decide), if_neg (by rw [q2]; decide)]
  rw [g1]
  exact rkind15_3 s w  q0 q1 q2
theorem rfreq15_1 (w : World) : Calls Tryz.prog 16 #[.int .i64 1] w fun e w' => e = .returned (.int .i64 12) ∧ w = w' := by
  go_enter Tryz.func16, Tryz.ntmps16
  go_wp2
  go_ret
  exact ⟨rfl, rfl⟩
theorem rfreq15_2 (w : World) : Calls Tryz.prog 16 #[.int .i64 2] w fun e w' => e = .returned (.int .i64 6) ∧ w = w' := by
  go_enter Tryz.func16, Tryz.ntmps16
  go_wp2
  go_ret
  exact ⟨rfl, rfl⟩
theorem rfreq15_3 (w : World) : Calls Tryz.prog 16 #[.int .i64 3] w fun e w' => e = .returned (.int .i64 4) ∧ w = w' := by
  go_enter Tryz.func16, Tryz.ntmps16
  go_wp2
  go_ret
  exact ⟨rfl, rfl⟩
theorem rfreq15_4 (w : World) : Calls Tryz.prog 16 #[.int .i64 4] w fun e w' => e = .returned (.int .i64 3) ∧ w = w' := by
  go_enter Tryz.func16, Tryz.ntmps16
  go_wp2
  go_ret
  exact ⟨rfl, rfl⟩
theorem rfreq15_6 (w : World) : Calls Tryz.prog 16 #[.int .i64 6] w fun e w' => e = .returned (.int .i64 2) ∧ w = w' := by
  go_enter Tryz.func16, Tryz.ntmps16
  go_wp2
  go_ret
  exact ⟨rfl, rfl⟩
theorem rfreq15_12 (w : World) : Calls Tryz.prog 16 #[.int .i64 12] w fun e w' => e = .returned (.int .i64 1) ∧ w = w' := by
  go_enter Tryz.func16, Tryz.ntmps16
  go_wp2
  go_ret
  exact ⟨rfl, rfl⟩
theorem rfreq15_out (m : Int) (w : World) (h : ¬ Mo m) : Calls Tryz.prog 16 #[.int .i64 m] w fun e w' => e = .returned (.int .i64 0) ∧ w = w' := by
  unfold Mo at h
  have n1 : (m == 1) = false := beq_eq_false_iff_ne.2 (by omega)
  have n2 : (m == 2) = false := beq_eq_false_iff_ne.2 (by omega)
  have n3 : (m == 3) = false := beq_eq_false_iff_ne.2 (by omega)
  have n4 : (m == 4) = false := beq_eq_false_iff_ne.2 (by omega)
  have n6 : (m == 6) = false := beq_eq_false_iff_ne.2 (by omega)
  have n12 : (m == 12) = false := beq_eq_false_iff_ne.2 (by omega)
  clear h
  go_enter Tryz.func16, Tryz.ntmps16
  go_wp2
  go_ret
  exact ⟨rfl, rfl⟩
theorem rfreq15 (m r : Int) (w : World) (h : fr m = r) : Calls Tryz.prog 16 #[.int .i64 m] w fun e w' => e = .returned (.int .i64 r) ∧ Below w.heap.size w w' := by
  subst h
  by_cases h : Mo m
  · rcases h with rfl | rfl | rfl | rfl | rfl | rfl
    · exact Calls.same (rfreq15_1 w)
    · exact Calls.same (rfreq15_2 w)
    · exact Calls.same (rfreq15_3 w)
    · exact Calls.same (rfreq15_4 w)
    · exact Calls.same (rfreq15_6 w)
    · exact Calls.same (rfreq15_12 w)
  · rw [fr_no h]
    exact Calls.same (rfreq15_out m w h)
end Go.Proofs.YtmaioofcmgaakaaGreatDoor
