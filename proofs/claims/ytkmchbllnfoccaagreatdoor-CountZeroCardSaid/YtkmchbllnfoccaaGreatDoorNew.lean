/- Package ratio: New: a fraction of two numbers. -/
import Derived.Test.YtkmchbllnfoccaaGreatDoorRKit
namespace Go.Proofs.YtkmchbllnfoccaaGreatDoor
open Go.RowKit
set_option linter.unusedVariables false

theorem new_arg1 (n d : Int) (w : World) (h : n < 0) :
    Calls Tryz.prog 74 #[.int .i64 n, .int .i64 d] w fun e w' => e = .returned (.tuple #[.agg #[.int .i64 0, .int .i64 0], .int .i64 1]) ∧ Below w.heap.size w w' := by
  have t1 : decide (n < 0) = true := by simp; omega
  go_enter Tryz.func74, Tryz.ntmps74
  go_wp2
  exact bodyPost_ret (v := .tuple #[.agg #[.int .i64 0, .int .i64 0], .int .i64 1]) (by simp [results, Tryz.results74, go_sem]) rfl ⟨rfl, (Below.refl _ _).alloc (Nat.le_refl _) _⟩

theorem new_arg2 (n d : Int) (w : World) (h : 0 ≤ n) (h2 : d < 0) :
    Calls Tryz.prog 74 #[.int .i64 n, .int .i64 d] w fun e w' => e = .returned (.tuple #[.agg #[.int .i64 0, .int .i64 0], .int .i64 1]) ∧ Below w.heap.size w w' := by
  have t1 : decide (n < 0) = false := by simp; omega
  have t2 : decide (d < 0) = true := by simp; omega
  go_enter Tryz.func74, Tryz.ntmps74
  go_wp2
  exact bodyPost_ret (v := .tuple #[.agg #[.int .i64 0, .int .i64 0], .int .i64 1]) (by simp [results, Tryz.results74, go_sem]) rfl ⟨rfl, (Below.refl _ _).alloc (Nat.le_refl _) _⟩

theorem new_zero (n d : Int) (w : World) (h : 0 ≤ n) (h2 : d = 0) :
    Calls Tryz.prog 74 #[.int .i64 n, .int .i64 d] w fun e w' => e = .returned (.tuple #[.agg #[.int .i64 0, .int .i64 0], .int .i64 7]) ∧ Below w.heap.size w w' := by
  have t1 : decide (n < 0) = false := by simp; omega
  subst h2
  go_enter Tryz.func74, Tryz.ntmps74
  go_wp2
  exact bodyPost_ret (v := .tuple #[.agg #[.int .i64 0, .int .i64 0], .int .i64 7]) (by simp [results, Tryz.results74, go_sem]) rfl ⟨rfl, (Below.refl _ _).alloc (Nat.le_refl _) _⟩

theorem new_arg (n d : Int) (w : World) (h : n < 0 ∨ d < 0) :
    Calls Tryz.prog 74 #[.int .i64 n, .int .i64 d] w fun e w' => e = .returned (.tuple #[.agg #[.int .i64 0, .int .i64 0], .int .i64 1]) ∧ Below w.heap.size w w' := by
  by_cases a : n < 0
  · exact new_arg1 n d w a
  · exact new_arg2 n d w (by omega) (by omega)

set_option maxHeartbeats 1000000 in
theorem new_any (n d : Int) (w : World) (n0 : 0 ≤ n) (n1 : n < 9223372036854775808) (d0 : 0 < d) (d1 : d < 9223372036854775808) :
    Calls Tryz.prog 74 #[.int .i64 n, .int .i64 d] w fun e w' => e = .returned (.tuple #[.agg #[.int .i64 (rN n d), .int .i64 (rD n d)], .int .i64 (rE n d)]) ∧ Below w.heap.size w w' := by
  have H := Held.start w
  obtain ⟨x, HX⟩ : ∃ x, Hid (mN n d = x) := ⟨_, Lib.hid rfl⟩
  obtain ⟨y, HY⟩ : ∃ y, Hid (mD n d = y) := ⟨_, Lib.hid rfl⟩
  have bx := mN_nonneg n d n0
  have b2 := m_le n d n0 (by omega)
  have b3 := mD_pos n d d0
  rw [HX.out] at bx
  rw [HY.out] at b3
  rw [HX.out, HY.out] at b2
  obtain ⟨b4, b5⟩ := b2
  obtain ⟨rn, RN⟩ : ∃ x, Hid (rN n d = x) := ⟨_, Lib.hid rfl⟩
  obtain ⟨rd, RD⟩ : ∃ x, Hid (rD n d = x) := ⟨_, Lib.hid rfl⟩
  obtain ⟨re, RE⟩ : ∃ x, Hid (rE n d = x) := ⟨_, Lib.hid rfl⟩
  have hx := Lib.hid (show wn 0 x = mN n d by rw [wn_zero, HX.out])
  have hy := Lib.hid (show wn 0 y = mD n d by rw [wn_zero, HY.out])
  rw [RN.out, RD.out, RE.out]
  have t1 : decide (n < 0) = false := by simp; omega
  have t2 : decide (d < 0) = false := by simp; omega
  have t3 : (d == 0) = false := beq_eq_false_iff_ne.2 (by omega)
  have wn : IntKind.u64.wrap n = n := IntWalk.u64_in _ (by omega)
  have wd : IntKind.u64.wrap d = d := IntWalk.u64_in _ (by omega)
  go_enter Tryz.func74, Tryz.ntmps74
  go_wp2_with fail
  replace H := (H.pair (w.heap.size) (.int .i64 0) (.int .i64 0) 29 rfl)
  (with_reducible refine (lowest_below n d _ (by omega) (by omega) (by omega) (by omega) (Or.inr d0)).mono ?_)
  rw [HX.out, HY.out]
  rintro e w1 ⟨rfl, hb⟩
  replace H := H.below hb
  clear hb
  go_wp2_with fail
  (with_reducible refine (of_any x _).mono ?_)
  rintro e w2 ⟨rfl, hb⟩
  replace H := H.below hb
  clear hb
  go_wp2_with fail
  (with_reducible refine (of_any y _).mono ?_)
  rintro e w3 ⟨rfl, hb⟩
  replace H := H.below hb
  clear hb
  go_wp2_with fail
  (with_reducible refine (fit_any 0 x 0 y n d _ (by omega) (by omega) (by omega) (by omega) (by omega) (by omega) hx.out hy.out).mono ?_)
  rw [RN.out, RD.out, RE.out]
  rintro e w4 ⟨rfl, hb⟩
  replace H := H.below hb
  clear hb
  have cr0 := H.cell (w.heap.size) 0 (.int .i64 0) (List.Mem.head _)
  have cr1 := H.cell (w.heap.size) 1 (.int .i64 0) (List.Mem.tail _ (List.Mem.head _))
  have lr := H.lt (w.heap.size) 0 (.int .i64 0) (List.Mem.head _)
  have fr0 := H.frozen (w.heap.size) 0 (List.Mem.tail _ (List.Mem.tail _ (List.Mem.head _)))
  have fr1 := H.frozen (w.heap.size) 1 (List.Mem.tail _ (List.Mem.tail _ (List.Mem.tail _ (List.Mem.head _))))
  go_wp2_with fail
  exact bodyPost_ret (v := .tuple #[.agg #[.int .i64 rn, .int .i64 rd], .int .i64 re]) (by simp [results, Tryz.results74, go_sem, cr0, cr1]) rfl ⟨rfl, (H.old.setCell (by simp <;> omega) _).setCell (by simp <;> omega) _⟩
end Go.Proofs.YtkmchbllnfoccaaGreatDoor
