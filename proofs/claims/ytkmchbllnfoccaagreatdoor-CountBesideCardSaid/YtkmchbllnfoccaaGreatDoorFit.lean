/- Package ratio: fit: numbers that a fraction may not have are refused. -/
import Derived.Test.YtkmchbllnfoccaaGreatDoorGcd
import Derived.Test.YtkmchbllnfoccaaGreatDoorGWide
namespace Go.Proofs.YtkmchbllnfoccaaGreatDoor
open Go.RowKit
set_option linter.unusedVariables false

theorem wn_zero (n : Int) : wn 0 n = n := by unfold wn; omega
theorem hi_small {n : Int} (h : 0 ≤ n) (h1 : n < 18446744073709551616) : hi n = 0 ∧ lo n = n := by unfold hi lo; omega

set_option maxHeartbeats 1000000 in
theorem fit_ok (nh nl dh dl N D : Int) (w : World) (k1 : 0 ≤ nl) (k2 : nl < 18446744073709551616) (k3 : 0 ≤ dl) (k4 : dl < 18446744073709551616) (hN : wn nh nl = N) (hD : wn dh dl = D) (hh : 0 ≤ nh) (hh2 : 0 ≤ dh) (hn : N ≤ 4611686018427387904) (hd : D ≤ 4611686018427387904) :
    Calls Tryz.prog 89 #[.agg #[.int .u64 nh, .int .u64 nl], .agg #[.int .u64 dh, .int .u64 dl]] w fun e w' => e = .returned (.tuple #[.agg #[.int .i64 N, .int .i64 D], .int .i64 0]) ∧ Below w.heap.size w w' := by
  have H := Held.start w
  have HN := Lib.hid hN
  have HD := Lib.hid hD
  obtain ⟨cN, hcN⟩ : ∃ c, Hid (cmpI N 4611686018427387904 = c) := ⟨_, Lib.hid rfl⟩
  obtain ⟨cD, hcD⟩ : ∃ c, Hid (cmpI D 4611686018427387904 = c) := ⟨_, Lib.hid rfl⟩
  have tN : decide (0 < cN) = false := by rw [← hcN.out]; exact cmpI_no hn
  have tD : decide (0 < cD) = false := by rw [← hcD.out]; exact cmpI_no hd
  have eN : nl = N := by rw [← hN] at hn ⊢; unfold wn at *; omega
  have eD : dl = D := by rw [← hD] at hd ⊢; unfold wn at *; omega
  rw [← eN, ← eD]
  have wN : IntKind.i64.wrap nl = nl := IntWalk.i64_in _ (by omega)
  have wD : IntKind.i64.wrap dl = dl := IntWalk.i64_in _ (by omega)
  clear eN eD
  clear hN hD
  go_enter Tryz.func89, Tryz.ntmps89
  go_wp2_with fail
  replace H := (((H.pair (w.heap.size) (.int .u64 nh) (.int .u64 nl) 130 rfl).pair (w.heap.size + 1) (.int .u64 dh) (.int .u64 dl) 130 (by simp)).pair (w.heap.size + 2) (.int .i64 0) (.int .i64 0) 29 (by simp))
  (with_reducible refine (of_any 4611686018427387904 _).mono ?_)
  rintro e w1 ⟨rfl, hb⟩
  replace H := H.below hb
  clear hb
  have cn0 := H.cell (w.heap.size) 0 (.int .u64 nh) (List.Mem.tail _ (List.Mem.tail _ (List.Mem.tail _ (List.Mem.tail _ (List.Mem.tail _ (List.Mem.tail _ (List.Mem.tail _ (List.Mem.tail _ (List.Mem.head _)))))))))
  have cn1 := H.cell (w.heap.size) 1 (.int .u64 nl) (List.Mem.tail _ (List.Mem.tail _ (List.Mem.tail _ (List.Mem.tail _ (List.Mem.tail _ (List.Mem.tail _ (List.Mem.tail _ (List.Mem.tail _ (List.Mem.tail _ (List.Mem.head _))))))))))
  have ln := H.lt (w.heap.size) 0 (.int .u64 nh) (List.Mem.tail _ (List.Mem.tail _ (List.Mem.tail _ (List.Mem.tail _ (List.Mem.tail _ (List.Mem.tail _ (List.Mem.tail _ (List.Mem.tail _ (List.Mem.head _)))))))))
  go_wp2_with fail
  clear cn0 cn1 ln
  replace H := (H.pair (w1.heap.size) (.int .u64 0) (.int .u64 4611686018427387904) 130 rfl)
  (with_reducible refine (cmp_any nh nl 0 4611686018427387904 _ k1 k2 (by omega) (by omega)).mono ?_)
  rw [HN.out, wn_zero, hcN.out]
  rintro e w2 ⟨rfl, hb⟩
  replace H := H.below hb
  clear hb
  have cd0 := H.cell (w.heap.size + 1) 0 (.int .u64 dh) (List.Mem.tail _ (List.Mem.tail _ (List.Mem.tail _ (List.Mem.tail _ (List.Mem.tail _ (List.Mem.tail _ (List.Mem.tail _ (List.Mem.tail _ (List.Mem.head _)))))))))
  have cd1 := H.cell (w.heap.size + 1) 1 (.int .u64 dl) (List.Mem.tail _ (List.Mem.tail _ (List.Mem.tail _ (List.Mem.tail _ (List.Mem.tail _ (List.Mem.tail _ (List.Mem.tail _ (List.Mem.tail _ (List.Mem.tail _ (List.Mem.head _))))))))))
  have ld := H.lt (w.heap.size + 1) 0 (.int .u64 dh) (List.Mem.tail _ (List.Mem.tail _ (List.Mem.tail _ (List.Mem.tail _ (List.Mem.tail _ (List.Mem.tail _ (List.Mem.tail _ (List.Mem.tail _ (List.Mem.head _)))))))))
  have cm0 := H.cell (w1.heap.size) 0 (.int .u64 0) (List.Mem.head _)
  have cm1 := H.cell (w1.heap.size) 1 (.int .u64 4611686018427387904) (List.Mem.tail _ (List.Mem.head _))
  have lm := H.lt (w1.heap.size) 0 (.int .u64 0) (List.Mem.head _)
  go_wp2_with fail
  clear cd0 cd1 ld cm0 cm1 lm
  (with_reducible refine (cmp_any dh dl 0 4611686018427387904 _ k3 k4 (by omega) (by omega)).mono ?_)
  rw [HD.out, wn_zero, hcD.out]
  rintro e w3 ⟨rfl, hb⟩
  replace H := H.below hb
  clear hb
  have cn0 := H.cell (w.heap.size) 0 (.int .u64 nh) (List.Mem.tail _ (List.Mem.tail _ (List.Mem.tail _ (List.Mem.tail _ (List.Mem.tail _ (List.Mem.tail _ (List.Mem.tail _ (List.Mem.tail _ (List.Mem.tail _ (List.Mem.tail _ (List.Mem.tail _ (List.Mem.tail _ (List.Mem.head _)))))))))))))
  have cn1 := H.cell (w.heap.size) 1 (.int .u64 nl) (List.Mem.tail _ (List.Mem.tail _ (List.Mem.tail _ (List.Mem.tail _ (List.Mem.tail _ (List.Mem.tail _ (List.Mem.tail _ (List.Mem.tail _ (List.Mem.tail _ (List.Mem.tail _ (List.Mem.tail _ (List.Mem.tail _ (List.Mem.tail _ (List.Mem.head _))))))))))))))
  have ln := H.lt (w.heap.size) 0 (.int .u64 nh) (List.Mem.tail _ (List.Mem.tail _ (List.Mem.tail _ (List.Mem.tail _ (List.Mem.tail _ (List.Mem.tail _ (List.Mem.tail _ (List.Mem.tail _ (List.Mem.tail _ (List.Mem.tail _ (List.Mem.tail _ (List.Mem.tail _ (List.Mem.head _)))))))))))))
  have cd0 := H.cell (w.heap.size + 1) 0 (.int .u64 dh) (List.Mem.tail _ (List.Mem.tail _ (List.Mem.tail _ (List.Mem.tail _ (List.Mem.tail _ (List.Mem.tail _ (List.Mem.tail _ (List.Mem.tail _ (List.Mem.head _)))))))))
  have cd1 := H.cell (w.heap.size + 1) 1 (.int .u64 dl) (List.Mem.tail _ (List.Mem.tail _ (List.Mem.tail _ (List.Mem.tail _ (List.Mem.tail _ (List.Mem.tail _ (List.Mem.tail _ (List.Mem.tail _ (List.Mem.tail _ (List.Mem.head _))))))))))
  have ld := H.lt (w.heap.size + 1) 0 (.int .u64 dh) (List.Mem.tail _ (List.Mem.tail _ (List.Mem.tail _ (List.Mem.tail _ (List.Mem.tail _ (List.Mem.tail _ (List.Mem.tail _ (List.Mem.tail _ (List.Mem.head _)))))))))
  have cr0 := H.cell (w.heap.size + 2) 0 (.int .i64 0) (List.Mem.tail _ (List.Mem.tail _ (List.Mem.tail _ (List.Mem.tail _ (List.Mem.head _)))))
  have cr1 := H.cell (w.heap.size + 2) 1 (.int .i64 0) (List.Mem.tail _ (List.Mem.tail _ (List.Mem.tail _ (List.Mem.tail _ (List.Mem.tail _ (List.Mem.head _))))))
  have lr := H.lt (w.heap.size + 2) 0 (.int .i64 0) (List.Mem.tail _ (List.Mem.tail _ (List.Mem.tail _ (List.Mem.tail _ (List.Mem.head _)))))
  have fr0 := H.frozen (w.heap.size + 2) 0 (List.Mem.tail _ (List.Mem.tail _ (List.Mem.tail _ (List.Mem.tail _ (List.Mem.tail _ (List.Mem.tail _ (List.Mem.head _)))))))
  have fr1 := H.frozen (w.heap.size + 2) 1 (List.Mem.tail _ (List.Mem.tail _ (List.Mem.tail _ (List.Mem.tail _ (List.Mem.tail _ (List.Mem.tail _ (List.Mem.tail _ (List.Mem.head _))))))))
  go_wp2_with fail
  exact bodyPost_ret (v := .tuple #[.agg #[.int .i64 nl, .int .i64 dl], .int .i64 0]) (by simp [results, Tryz.results89, go_sem, cr0, cr1]) rfl ⟨rfl, (H.old.setCell (by simp <;> omega) _).setCell (by simp <;> omega) _⟩

set_option maxHeartbeats 1000000 in
theorem fit_over1 (nh nl dh dl N D : Int) (w : World) (k1 : 0 ≤ nl) (k2 : nl < 18446744073709551616) (k3 : 0 ≤ dl) (k4 : dl < 18446744073709551616) (hN : wn nh nl = N) (hD : wn dh dl = D) (hn : 4611686018427387904 < N) :
    Calls Tryz.prog 89 #[.agg #[.int .u64 nh, .int .u64 nl], .agg #[.int .u64 dh, .int .u64 dl]] w fun e w' => e = .returned (.tuple #[.agg #[.int .i64 0, .int .i64 0], .int .i64 6]) ∧ Below w.heap.size w w' := by
  have H := Held.start w
  have HN := Lib.hid hN
  have HD := Lib.hid hD
  obtain ⟨cN, hcN⟩ : ∃ c, Hid (cmpI N 4611686018427387904 = c) := ⟨_, Lib.hid rfl⟩
  obtain ⟨cD, hcD⟩ : ∃ c, Hid (cmpI D 4611686018427387904 = c) := ⟨_, Lib.hid rfl⟩
  have tN : decide (0 < cN) = true := by rw [← hcN.out, cmpI_gt hn]; rfl
  clear hN hD
  go_enter Tryz.func89, Tryz.ntmps89
  go_wp2_with fail
  replace H := (((H.pair (w.heap.size) (.int .u64 nh) (.int .u64 nl) 130 rfl).pair (w.heap.size + 1) (.int .u64 dh) (.int .u64 dl) 130 (by simp)).pair (w.heap.size + 2) (.int .i64 0) (.int .i64 0) 29 (by simp))
  (with_reducible refine (of_any 4611686018427387904 _).mono ?_)
  rintro e w1 ⟨rfl, hb⟩
  replace H := H.below hb
  clear hb
  have cn0 := H.cell (w.heap.size) 0 (.int .u64 nh) (List.Mem.tail _ (List.Mem.tail _ (List.Mem.tail _ (List.Mem.tail _ (List.Mem.tail _ (List.Mem.tail _ (List.Mem.tail _ (List.Mem.tail _ (List.Mem.head _)))))))))
  have cn1 := H.cell (w.heap.size) 1 (.int .u64 nl) (List.Mem.tail _ (List.Mem.tail _ (List.Mem.tail _ (List.Mem.tail _ (List.Mem.tail _ (List.Mem.tail _ (List.Mem.tail _ (List.Mem.tail _ (List.Mem.tail _ (List.Mem.head _))))))))))
  have ln := H.lt (w.heap.size) 0 (.int .u64 nh) (List.Mem.tail _ (List.Mem.tail _ (List.Mem.tail _ (List.Mem.tail _ (List.Mem.tail _ (List.Mem.tail _ (List.Mem.tail _ (List.Mem.tail _ (List.Mem.head _)))))))))
  go_wp2_with fail
  clear cn0 cn1 ln
  replace H := (H.pair (w1.heap.size) (.int .u64 0) (.int .u64 4611686018427387904) 130 rfl)
  (with_reducible refine (cmp_any nh nl 0 4611686018427387904 _ k1 k2 (by omega) (by omega)).mono ?_)
  rw [HN.out, wn_zero, hcN.out]
  rintro e w2 ⟨rfl, hb⟩
  replace H := H.below hb
  clear hb
  have cn0 := H.cell (w.heap.size) 0 (.int .u64 nh) (List.Mem.tail _ (List.Mem.tail _ (List.Mem.tail _ (List.Mem.tail _ (List.Mem.tail _ (List.Mem.tail _ (List.Mem.tail _ (List.Mem.tail _ (List.Mem.tail _ (List.Mem.tail _ (List.Mem.tail _ (List.Mem.tail _ (List.Mem.head _)))))))))))))
  have cn1 := H.cell (w.heap.size) 1 (.int .u64 nl) (List.Mem.tail _ (List.Mem.tail _ (List.Mem.tail _ (List.Mem.tail _ (List.Mem.tail _ (List.Mem.tail _ (List.Mem.tail _ (List.Mem.tail _ (List.Mem.tail _ (List.Mem.tail _ (List.Mem.tail _ (List.Mem.tail _ (List.Mem.tail _ (List.Mem.head _))))))))))))))
  have ln := H.lt (w.heap.size) 0 (.int .u64 nh) (List.Mem.tail _ (List.Mem.tail _ (List.Mem.tail _ (List.Mem.tail _ (List.Mem.tail _ (List.Mem.tail _ (List.Mem.tail _ (List.Mem.tail _ (List.Mem.tail _ (List.Mem.tail _ (List.Mem.tail _ (List.Mem.tail _ (List.Mem.head _)))))))))))))
  have cd0 := H.cell (w.heap.size + 1) 0 (.int .u64 dh) (List.Mem.tail _ (List.Mem.tail _ (List.Mem.tail _ (List.Mem.tail _ (List.Mem.tail _ (List.Mem.tail _ (List.Mem.tail _ (List.Mem.tail _ (List.Mem.head _)))))))))
  have cd1 := H.cell (w.heap.size + 1) 1 (.int .u64 dl) (List.Mem.tail _ (List.Mem.tail _ (List.Mem.tail _ (List.Mem.tail _ (List.Mem.tail _ (List.Mem.tail _ (List.Mem.tail _ (List.Mem.tail _ (List.Mem.tail _ (List.Mem.head _))))))))))
  have ld := H.lt (w.heap.size + 1) 0 (.int .u64 dh) (List.Mem.tail _ (List.Mem.tail _ (List.Mem.tail _ (List.Mem.tail _ (List.Mem.tail _ (List.Mem.tail _ (List.Mem.tail _ (List.Mem.tail _ (List.Mem.head _)))))))))
  have cr0 := H.cell (w.heap.size + 2) 0 (.int .i64 0) (List.Mem.tail _ (List.Mem.tail _ (List.Mem.tail _ (List.Mem.tail _ (List.Mem.head _)))))
  have cr1 := H.cell (w.heap.size + 2) 1 (.int .i64 0) (List.Mem.tail _ (List.Mem.tail _ (List.Mem.tail _ (List.Mem.tail _ (List.Mem.tail _ (List.Mem.head _))))))
  have lr := H.lt (w.heap.size + 2) 0 (.int .i64 0) (List.Mem.tail _ (List.Mem.tail _ (List.Mem.tail _ (List.Mem.tail _ (List.Mem.head _)))))
  have fr0 := H.frozen (w.heap.size + 2) 0 (List.Mem.tail _ (List.Mem.tail _ (List.Mem.tail _ (List.Mem.tail _ (List.Mem.tail _ (List.Mem.tail _ (List.Mem.head _)))))))
  have fr1 := H.frozen (w.heap.size + 2) 1 (List.Mem.tail _ (List.Mem.tail _ (List.Mem.tail _ (List.Mem.tail _ (List.Mem.tail _ (List.Mem.tail _ (List.Mem.tail _ (List.Mem.head _))))))))
  go_wp2_with fail
  exact bodyPost_ret (v := .tuple #[.agg #[.int .i64 0, .int .i64 0], .int .i64 6]) (by simp [results, Tryz.results89, go_sem, cr0, cr1]) rfl ⟨rfl, (H.old.setCell (by simp <;> omega) _).setCell (by simp <;> omega) _⟩

set_option maxHeartbeats 1000000 in
theorem fit_over2 (nh nl dh dl N D : Int) (w : World) (k1 : 0 ≤ nl) (k2 : nl < 18446744073709551616) (k3 : 0 ≤ dl) (k4 : dl < 18446744073709551616) (hN : wn nh nl = N) (hD : wn dh dl = D) (hn : N ≤ 4611686018427387904) (hd : 4611686018427387904 < D) :
    Calls Tryz.prog 89 #[.agg #[.int .u64 nh, .int .u64 nl], .agg #[.int .u64 dh, .int .u64 dl]] w fun e w' => e = .returned (.tuple #[.agg #[.int .i64 0, .int .i64 0], .int .i64 6]) ∧ Below w.heap.size w w' := by
  have H := Held.start w
  have HN := Lib.hid hN
  have HD := Lib.hid hD
  obtain ⟨cN, hcN⟩ : ∃ c, Hid (cmpI N 4611686018427387904 = c) := ⟨_, Lib.hid rfl⟩
  obtain ⟨cD, hcD⟩ : ∃ c, Hid (cmpI D 4611686018427387904 = c) := ⟨_, Lib.hid rfl⟩
  have tN : decide (0 < cN) = false := by rw [← hcN.out]; exact cmpI_no hn
  have tD : decide (0 < cD) = true := by rw [← hcD.out, cmpI_gt hd]; rfl
  clear hN hD
  go_enter Tryz.func89, Tryz.ntmps89
  go_wp2_with fail
  replace H := (((H.pair (w.heap.size) (.int .u64 nh) (.int .u64 nl) 130 rfl).pair (w.heap.size + 1) (.int .u64 dh) (.int .u64 dl) 130 (by simp)).pair (w.heap.size + 2) (.int .i64 0) (.int .i64 0) 29 (by simp))
  (with_reducible refine (of_any 4611686018427387904 _).mono ?_)
  rintro e w1 ⟨rfl, hb⟩
  replace H := H.below hb
  clear hb
  have cn0 := H.cell (w.heap.size) 0 (.int .u64 nh) (List.Mem.tail _ (List.Mem.tail _ (List.Mem.tail _ (List.Mem.tail _ (List.Mem.tail _ (List.Mem.tail _ (List.Mem.tail _ (List.Mem.tail _ (List.Mem.head _)))))))))
  have cn1 := H.cell (w.heap.size) 1 (.int .u64 nl) (List.Mem.tail _ (List.Mem.tail _ (List.Mem.tail _ (List.Mem.tail _ (List.Mem.tail _ (List.Mem.tail _ (List.Mem.tail _ (List.Mem.tail _ (List.Mem.tail _ (List.Mem.head _))))))))))
  have ln := H.lt (w.heap.size) 0 (.int .u64 nh) (List.Mem.tail _ (List.Mem.tail _ (List.Mem.tail _ (List.Mem.tail _ (List.Mem.tail _ (List.Mem.tail _ (List.Mem.tail _ (List.Mem.tail _ (List.Mem.head _)))))))))
  go_wp2_with fail
  clear cn0 cn1 ln
  replace H := (H.pair (w1.heap.size) (.int .u64 0) (.int .u64 4611686018427387904) 130 rfl)
  (with_reducible refine (cmp_any nh nl 0 4611686018427387904 _ k1 k2 (by omega) (by omega)).mono ?_)
  rw [HN.out, wn_zero, hcN.out]
  rintro e w2 ⟨rfl, hb⟩
  replace H := H.below hb
  clear hb
  have cd0 := H.cell (w.heap.size + 1) 0 (.int .u64 dh) (List.Mem.tail _ (List.Mem.tail _ (List.Mem.tail _ (List.Mem.tail _ (List.Mem.tail _ (List.Mem.tail _ (List.Mem.tail _ (List.Mem.tail _ (List.Mem.head _)))))))))
  have cd1 := H.cell (w.heap.size + 1) 1 (.int .u64 dl) (List.Mem.tail _ (List.Mem.tail _ (List.Mem.tail _ (List.Mem.tail _ (List.Mem.tail _ (List.Mem.tail _ (List.Mem.tail _ (List.Mem.tail _ (List.Mem.tail _ (List.Mem.head _))))))))))
  have ld := H.lt (w.heap.size + 1) 0 (.int .u64 dh) (List.Mem.tail _ (List.Mem.tail _ (List.Mem.tail _ (List.Mem.tail _ (List.Mem.tail _ (List.Mem.tail _ (List.Mem.tail _ (List.Mem.tail _ (List.Mem.head _)))))))))
  have cm0 := H.cell (w1.heap.size) 0 (.int .u64 0) (List.Mem.head _)
  have cm1 := H.cell (w1.heap.size) 1 (.int .u64 4611686018427387904) (List.Mem.tail _ (List.Mem.head _))
  have lm := H.lt (w1.heap.size) 0 (.int .u64 0) (List.Mem.head _)
  go_wp2_with fail
  clear cd0 cd1 ld cm0 cm1 lm
  (with_reducible refine (cmp_any dh dl 0 4611686018427387904 _ k3 k4 (by omega) (by omega)).mono ?_)
  rw [HD.out, wn_zero, hcD.out]
  rintro e w3 ⟨rfl, hb⟩
  replace H := H.below hb
  clear hb
  have cn0 := H.cell (w.heap.size) 0 (.int .u64 nh) (List.Mem.tail _ (List.Mem.tail _ (List.Mem.tail _ (List.Mem.tail _ (List.Mem.tail _ (List.Mem.tail _ (List.Mem.tail _ (List.Mem.tail _ (List.Mem.tail _ (List.Mem.tail _ (List.Mem.tail _ (List.Mem.tail _ (List.Mem.head _)))))))))))))
  have cn1 := H.cell (w.heap.size) 1 (.int .u64 nl) (List.Mem.tail _ (List.Mem.tail _ (List.Mem.tail _ (List.Mem.tail _ (List.Mem.tail _ (List.Mem.tail _ (List.Mem.tail _ (List.Mem.tail _ (List.Mem.tail _ (List.Mem.tail _ (List.Mem.tail _ (List.Mem.tail _ (List.Mem.tail _ (List.Mem.head _))))))))))))))
  have ln := H.lt (w.heap.size) 0 (.int .u64 nh) (List.Mem.tail _ (List.Mem.tail _ (List.Mem.tail _ (List.Mem.tail _ (List.Mem.tail _ (List.Mem.tail _ (List.Mem.tail _ (List.Mem.tail _ (List.Mem.tail _ (List.Mem.tail _ (List.Mem.tail _ (List.Mem.tail _ (List.Mem.head _)))))))))))))
  have cd0 := H.cell (w.heap.size + 1) 0 (.int .u64 dh) (List.Mem.tail _ (List.Mem.tail _ (List.Mem.tail _ (List.Mem.tail _ (List.Mem.tail _ (List.Mem.tail _ (List.Mem.tail _ (List.Mem.tail _ (List.Mem.head _)))))))))
  have cd1 := H.cell (w.heap.size + 1) 1 (.int .u64 dl) (List.Mem.tail _ (List.Mem.tail _ (List.Mem.tail _ (List.Mem.tail _ (List.Mem.tail _ (List.Mem.tail _ (List.Mem.tail _ (List.Mem.tail _ (List.Mem.tail _ (List.Mem.head _))))))))))
  have ld := H.lt (w.heap.size + 1) 0 (.int .u64 dh) (List.Mem.tail _ (List.Mem.tail _ (List.Mem.tail _ (List.Mem.tail _ (List.Mem.tail _ (List.Mem.tail _ (List.Mem.tail _ (List.Mem.tail _ (List.Mem.head _)))))))))
  have cr0 := H.cell (w.heap.size + 2) 0 (.int .i64 0) (List.Mem.tail _ (List.Mem.tail _ (List.Mem.tail _ (List.Mem.tail _ (List.Mem.head _)))))
  have cr1 := H.cell (w.heap.size + 2) 1 (.int .i64 0) (List.Mem.tail _ (List.Mem.tail _ (List.Mem.tail _ (List.Mem.tail _ (List.Mem.tail _ (List.Mem.head _))))))
  have lr := H.lt (w.heap.size + 2) 0 (.int .i64 0) (List.Mem.tail _ (List.Mem.tail _ (List.Mem.tail _ (List.Mem.tail _ (List.Mem.head _)))))
  have fr0 := H.frozen (w.heap.size + 2) 0 (List.Mem.tail _ (List.Mem.tail _ (List.Mem.tail _ (List.Mem.tail _ (List.Mem.tail _ (List.Mem.tail _ (List.Mem.head _)))))))
  have fr1 := H.frozen (w.heap.size + 2) 1 (List.Mem.tail _ (List.Mem.tail _ (List.Mem.tail _ (List.Mem.tail _ (List.Mem.tail _ (List.Mem.tail _ (List.Mem.tail _ (List.Mem.head _))))))))
  go_wp2_with fail
  exact bodyPost_ret (v := .tuple #[.agg #[.int .i64 0, .int .i64 0], .int .i64 6]) (by simp [results, Tryz.results89, go_sem, cr0, cr1]) rfl ⟨rfl, (H.old.setCell (by simp <;> omega) _).setCell (by simp <;> omega) _⟩
end Go.Proofs.YtkmchbllnfoccaaGreatDoor
