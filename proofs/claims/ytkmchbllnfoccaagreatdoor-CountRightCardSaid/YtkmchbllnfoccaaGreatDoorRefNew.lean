/- The reference: a fraction of two ints. -/
import Derived.Test.YtkmchbllnfoccaaGreatDoorRefMade
namespace Go.Proofs.YtkmchbllnfoccaaGreatDoor
open Go.RowKit
set_option linter.unusedVariables false

theorem refnew_arg1 (n d : Int) (w : World) (h : n < 0) :
    Calls Tryz.prog 41 #[.int .i64 n, .int .i64 d] w fun e w' => e = .returned (.tuple #[.agg #[.int .i64 0, .int .i64 0], .int .i64 1]) ∧ Below w.heap.size w w' := by
  have t1 : decide (n < 0) = true := by simp; omega
  go_enter Tryz.func41, Tryz.ntmps41
  go_wp2
  exact bodyPost_ret (v := .tuple #[.agg #[.int .i64 0, .int .i64 0], .int .i64 1]) (by simp [results, Tryz.results41, go_sem]) rfl ⟨rfl, (Below.refl _ _).alloc (Nat.le_refl _) _⟩

theorem refnew_arg2 (n d : Int) (w : World) (h : 0 ≤ n) (h2 : d < 0) :
    Calls Tryz.prog 41 #[.int .i64 n, .int .i64 d] w fun e w' => e = .returned (.tuple #[.agg #[.int .i64 0, .int .i64 0], .int .i64 1]) ∧ Below w.heap.size w w' := by
  have t1 : decide (n < 0) = false := by simp; omega
  have t2 : decide (d < 0) = true := by simp; omega
  go_enter Tryz.func41, Tryz.ntmps41
  go_wp2
  exact bodyPost_ret (v := .tuple #[.agg #[.int .i64 0, .int .i64 0], .int .i64 1]) (by simp [results, Tryz.results41, go_sem]) rfl ⟨rfl, (Below.refl _ _).alloc (Nat.le_refl _) _⟩

theorem refnew_zero (n d : Int) (w : World) (h : 0 ≤ n) (h2 : d = 0) :
    Calls Tryz.prog 41 #[.int .i64 n, .int .i64 d] w fun e w' => e = .returned (.tuple #[.agg #[.int .i64 0, .int .i64 0], .int .i64 7]) ∧ Below w.heap.size w w' := by
  have t1 : decide (n < 0) = false := by simp; omega
  subst h2
  go_enter Tryz.func41, Tryz.ntmps41
  go_wp2
  exact bodyPost_ret (v := .tuple #[.agg #[.int .i64 0, .int .i64 0], .int .i64 7]) (by simp [results, Tryz.results41, go_sem]) rfl ⟨rfl, (Below.refl _ _).alloc (Nat.le_refl _) _⟩

set_option maxHeartbeats 1000000 in
theorem refnew_any (n d : Int) (w : World) (n0 : 0 ≤ n) (n1 : n < 9223372036854775808) (d0 : 0 < d) (d1 : d < 9223372036854775808) :
    Calls Tryz.prog 41 #[.int .i64 n, .int .i64 d] w fun e w' => e = .returned (.tuple #[.agg #[.int .i64 (rN n d), .int .i64 (rD n d)], .int .i64 (rE n d)]) ∧ Below w.heap.size w w' := by
  have H := Held.start w
  obtain ⟨rn, RN⟩ : ∃ x, Hid (rN n d = x) := ⟨_, Lib.hid rfl⟩
  obtain ⟨rd, RD⟩ : ∃ x, Hid (rD n d = x) := ⟨_, Lib.hid rfl⟩
  obtain ⟨re, RE⟩ : ∃ x, Hid (rE n d = x) := ⟨_, Lib.hid rfl⟩
  rw [RN.out, RD.out, RE.out]
  have t1 : decide (n < 0) = false := by simp; omega
  have t2 : decide (d < 0) = false := by simp; omega
  have t3 : (d == 0) = false := beq_eq_false_iff_ne.2 (by omega)
  go_enter Tryz.func41, Tryz.ntmps41
  go_wp2_with fail
  replace H := (H.pair (w.heap.size) (.int .i64 0) (.int .i64 0) 29 rfl)
  (with_reducible refine (from_n n _ (by omega) (by omega)).mono ?_)
  rintro e w1 ⟨pa, pk, pc, rfl, NN, -, hb⟩
  replace H := H.below hb
  clear hb
  replace H := H.num NN
  clear NN
  go_wp2_with fail
  (with_reducible refine (from_n d _ (by omega) (by omega)).mono ?_)
  rintro e w2 ⟨qa, qk, qc, rfl, NN, -, hb⟩
  replace H := H.below hb
  clear hb
  replace H := H.num NN
  clear NN
  go_wp2_with fail
  (with_reducible refine (made_n pa pk pc qa qk qc n d 5 _ (H.big (.slice pa pk pc) (n) 5 (List.Mem.tail _ (List.Mem.head _))) (H.big (.slice qa qk qc) (d) 5 (List.Mem.head _)) (by omega) d0).mono ?_)
  rw [RN.out, RD.out, RE.out]
  rintro e w3 ⟨rfl, hb⟩
  replace H := H.below hb
  clear hb
  have cr0 := H.cell (w.heap.size) 0 (.int .i64 0) (List.Mem.tail _ (List.Mem.tail _ (List.Mem.head _)))
  have cr1 := H.cell (w.heap.size) 1 (.int .i64 0) (List.Mem.tail _ (List.Mem.tail _ (List.Mem.tail _ (List.Mem.head _))))
  have lr := H.lt (w.heap.size) 0 (.int .i64 0) (List.Mem.tail _ (List.Mem.tail _ (List.Mem.head _)))
  have fr0 := H.frozen (w.heap.size) 0 (List.Mem.tail _ (List.Mem.tail _ (List.Mem.tail _ (List.Mem.tail _ (List.Mem.head _)))))
  have fr1 := H.frozen (w.heap.size) 1 (List.Mem.tail _ (List.Mem.tail _ (List.Mem.tail _ (List.Mem.tail _ (List.Mem.tail _ (List.Mem.head _))))))
  go_wp2_with fail
  exact bodyPost_ret (v := .tuple #[.agg #[.int .i64 rn, .int .i64 rd], .int .i64 re]) (by simp [results, Tryz.results41, go_sem, cr0, cr1]) rfl ⟨rfl, (H.old.setCell (by simp <;> omega) _).setCell (by simp <;> omega) _⟩
end Go.Proofs.YtkmchbllnfoccaaGreatDoor
