/- ThirtyAdds: the walk. -/
import Derived.Test.YtkmjaoiehmddcaaDoorTyPart
namespace Go.Proofs.YtkmjaoiehmddcaaDoor
open Go.RowKit
set_option linter.unusedVariables false
set_option linter.unusedSimpArgs false

set_option maxHeartbeats 4000000 in
set_option maxRecDepth 100000 in
theorem tadds_a (K : Ways) (a b c : Int) (w : World) (hL : Lens w) (h : a < 1 ∨ 3652059 < a) :
    Calls Tryd.prog 7 #[.int .i64 a, .int .i64 b, .int .i64 c] w fun e w' => e = .returned (.bool true) ∧ Below w.heap.size w w' := by
  have H := (Held.start w).add (f := lensF) hL
  clear hL
  have D1 : Hid (decide (1 ≤ a ∧ a ≤ 3652059) = false) := Lib.hid (by rw [decide_eq_false_iff_not]; omega)
  clear h
  go_enter Tryd.func7, Tryd.ntmps7
  go_wp2_with fail
  (with_reducible refine (tshown_any K _ (H.lens (List.Mem.head _))).mono ?_)
  rintro e w1 ⟨rfl, hb⟩
  replace H := H.below hb
  clear hb
  go_wp2_with fail
  (with_reducible refine (rday_is a false _ D1.out).mono ?_)
  rintro e w2 ⟨rfl, hb⟩
  replace H := H.below hb
  clear hb
  go_wp2_with fail
  go_ret
  exact ⟨rfl, H.old⟩

set_option maxHeartbeats 4000000 in
set_option maxRecDepth 100000 in
theorem tadds_b (K : Ways) (a b c : Int) (w : World) (hL : Lens w) (h1 : 1 ≤ a ∧ a ≤ 3652059) (h : b < 1 ∨ 3652059 < b) :
    Calls Tryd.prog 7 #[.int .i64 a, .int .i64 b, .int .i64 c] w fun e w' => e = .returned (.bool true) ∧ Below w.heap.size w w' := by
  have H := (Held.start w).add (f := lensF) hL
  clear hL
  have D1 : Hid (decide (1 ≤ a ∧ a ≤ 3652059) = true) := Lib.hid (by rw [decide_eq_true_eq]; exact h1)
  have D2 : Hid (decide (1 ≤ b ∧ b ≤ 3652059) = false) := Lib.hid (by rw [decide_eq_false_iff_not]; omega)
  clear h h1
  go_enter Tryd.func7, Tryd.ntmps7
  go_wp2_with fail
  (with_reducible refine (tshown_any K _ (H.lens (List.Mem.head _))).mono ?_)
  rintro e w1 ⟨rfl, hb⟩
  replace H := H.below hb
  clear hb
  go_wp2_with fail
  (with_reducible refine (rday_is a true _ D1.out).mono ?_)
  rintro e w2 ⟨rfl, hb⟩
  replace H := H.below hb
  clear hb
  go_wp2_with fail
  (with_reducible refine (rday_is b false _ D2.out).mono ?_)
  rintro e w3 ⟨rfl, hb⟩
  replace H := H.below hb
  clear hb
  go_wp2_with fail
  go_ret
  exact ⟨rfl, H.old⟩

set_option maxHeartbeats 4000000 in
set_option maxRecDepth 100000 in
theorem tadds_c (K : Ways) (a b c : Int) (w : World) (hL : Lens w) (h1 : 1 ≤ a ∧ a ≤ 3652059) (h2 : 1 ≤ b ∧ b ≤ 3652059) (h : c < 1 ∨ 3652059 < c) :
    Calls Tryd.prog 7 #[.int .i64 a, .int .i64 b, .int .i64 c] w fun e w' => e = .returned (.bool true) ∧ Below w.heap.size w w' := by
  have H := (Held.start w).add (f := lensF) hL
  clear hL
  have D1 : Hid (decide (1 ≤ a ∧ a ≤ 3652059) = true) := Lib.hid (by rw [decide_eq_true_eq]; exact h1)
  have D2 : Hid (decide (1 ≤ b ∧ b ≤ 3652059) = true) := Lib.hid (by rw [decide_eq_true_eq]; exact h2)
  have D3 : Hid (decide (1 ≤ c ∧ c ≤ 3652059) = false) := Lib.hid (by rw [decide_eq_false_iff_not]; omega)
  clear h h1 h2
  go_enter Tryd.func7, Tryd.ntmps7
  go_wp2_with fail
  (with_reducible refine (tshown_any K _ (H.lens (List.Mem.head _))).mono ?_)
  rintro e w1 ⟨rfl, hb⟩
  replace H := H.below hb
  clear hb
  go_wp2_with fail
  (with_reducible refine (rday_is a true _ D1.out).mono ?_)
  rintro e w2 ⟨rfl, hb⟩
  replace H := H.below hb
  clear hb
  go_wp2_with fail
  (with_reducible refine (rday_is b true _ D2.out).mono ?_)
  rintro e w3 ⟨rfl, hb⟩
  replace H := H.below hb
  clear hb
  go_wp2_with fail
  (with_reducible refine (rday_is c false _ D3.out).mono ?_)
  rintro e w4 ⟨rfl, hb⟩
  replace H := H.below hb
  clear hb
  go_wp2_with fail
  go_ret
  exact ⟨rfl, H.old⟩

set_option maxHeartbeats 4000000 in
set_option maxRecDepth 100000 in
theorem tadds_ab (K : Ways) (a b c : Int) (w : World) (hL : Lens w) (h1 : 1 ≤ a ∧ a ≤ 3652059) (h2 : 1 ≤ b ∧ b ≤ 3652059) (h3 : 1 ≤ c ∧ c ≤ 3652059) (h : a > b) :
    Calls Tryd.prog 7 #[.int .i64 a, .int .i64 b, .int .i64 c] w fun e w' => e = .returned (.bool true) ∧ Below w.heap.size w w' := by
  have H := (Held.start w).add (f := lensF) hL
  clear hL
  have D1 : Hid (decide (1 ≤ a ∧ a ≤ 3652059) = true) := Lib.hid (by rw [decide_eq_true_eq]; exact h1)
  have D2 : Hid (decide (1 ≤ b ∧ b ≤ 3652059) = true) := Lib.hid (by rw [decide_eq_true_eq]; exact h2)
  have D3 : Hid (decide (1 ≤ c ∧ c ≤ 3652059) = true) := Lib.hid (by rw [decide_eq_true_eq]; exact h3)
  clear h1 h2 h3
  go_enter Tryd.func7, Tryd.ntmps7
  go_wp2_with fail
  (with_reducible refine (tshown_any K _ (H.lens (List.Mem.head _))).mono ?_)
  rintro e w1 ⟨rfl, hb⟩
  replace H := H.below hb
  clear hb
  go_wp2_with fail
  (with_reducible refine (rday_is a true _ D1.out).mono ?_)
  rintro e w2 ⟨rfl, hb⟩
  replace H := H.below hb
  clear hb
  go_wp2_with fail
  (with_reducible refine (rday_is b true _ D2.out).mono ?_)
  rintro e w3 ⟨rfl, hb⟩
  replace H := H.below hb
  clear hb
  go_wp2_with fail
  (with_reducible refine (rday_is c true _ D3.out).mono ?_)
  rintro e w4 ⟨rfl, hb⟩
  replace H := H.below hb
  clear hb
  go_wp2_with fail
  go_ret
  exact ⟨rfl, H.old⟩

set_option maxHeartbeats 4000000 in
set_option maxRecDepth 100000 in
theorem tadds_bc (K : Ways) (a b c : Int) (w : World) (hL : Lens w) (h1 : 1 ≤ a ∧ a ≤ 3652059) (h2 : 1 ≤ b ∧ b ≤ 3652059) (h3 : 1 ≤ c ∧ c ≤ 3652059) (g : ¬ a > b) (h : b > c) :
    Calls Tryd.prog 7 #[.int .i64 a, .int .i64 b, .int .i64 c] w fun e w' => e = .returned (.bool true) ∧ Below w.heap.size w w' := by
  have H := (Held.start w).add (f := lensF) hL
  clear hL
  have D1 : Hid (decide (1 ≤ a ∧ a ≤ 3652059) = true) := Lib.hid (by rw [decide_eq_true_eq]; exact h1)
  have D2 : Hid (decide (1 ≤ b ∧ b ≤ 3652059) = true) := Lib.hid (by rw [decide_eq_true_eq]; exact h2)
  have D3 : Hid (decide (1 ≤ c ∧ c ≤ 3652059) = true) := Lib.hid (by rw [decide_eq_true_eq]; exact h3)
  clear h1 h2 h3
  go_enter Tryd.func7, Tryd.ntmps7
  go_wp2_with fail
  (with_reducible refine (tshown_any K _ (H.lens (List.Mem.head _))).mono ?_)
  rintro e w1 ⟨rfl, hb⟩
  replace H := H.below hb
  clear hb
  go_wp2_with fail
  (with_reducible refine (rday_is a true _ D1.out).mono ?_)
  rintro e w2 ⟨rfl, hb⟩
  replace H := H.below hb
  clear hb
  go_wp2_with fail
  (with_reducible refine (rday_is b true _ D2.out).mono ?_)
  rintro e w3 ⟨rfl, hb⟩
  replace H := H.below hb
  clear hb
  go_wp2_with fail
  (with_reducible refine (rday_is c true _ D3.out).mono ?_)
  rintro e w4 ⟨rfl, hb⟩
  replace H := H.below hb
  clear hb
  go_wp2_with fail
  go_ret
  exact ⟨rfl, H.old⟩

set_option maxHeartbeats 4000000 in
set_option maxRecDepth 100000 in
theorem tadds_in (K : Ways) (a b c p0 q0 p1 q1 p2 q2 p3 q3 p4 q4 p5 q5 : Int) (w : World) (hL : Lens w) (h1 : 1 ≤ a ∧ a ≤ 3652059) (h2 : 1 ≤ b ∧ b ≤ 3652059) (h3 : 1 ≤ c ∧ c ≤ 3652059) (g : ¬ a > b) (h : ¬ b > c) (w0 : PartIs eX a b p0 q0 0) (w1 : PartIs eX b c p1 q1 0) (w2 : PartIs eX a c p2 q2 0) (w3 : PartIs (iX (decide (b = 0))) a b p3 q3 0) (w4 : PartIs (iX (decide (c = 0))) b c p4 q4 0) (w5 : PartIs (iX (decide (c = 0))) a c p5 q5 0) (r0 : rightB p0 q0 = true) (r1 : rightB p1 q1 = true) (r3 : rightB p3 q3 = true) (r4 : rightB p4 q4 = true) (s1 : rN (p0 * q1 + p1 * q0) (q0 * q1) = p2 ∧ rD (p0 * q1 + p1 * q0) (q0 * q1) = q2 ∧ rE (p0 * q1 + p1 * q0) (q0 * q1) = 0) (s2 : rN (p3 * q4 + p4 * q3) (q3 * q4) = p5 ∧ rD (p3 * q4 + p4 * q3) (q3 * q4) = q5 ∧ rE (p3 * q4 + p4 * q3) (q3 * q4) = 0) :
    Calls Tryd.prog 7 #[.int .i64 a, .int .i64 b, .int .i64 c] w fun e w' => e = .returned (.bool true) ∧ Below w.heap.size w w' := by
  have H := (Held.start w).add (f := lensF) hL
  clear hL
  have D1 : Hid (decide (1 ≤ a ∧ a ≤ 3652059) = true) := Lib.hid (by rw [decide_eq_true_eq]; exact h1)
  have D2 : Hid (decide (1 ≤ b ∧ b ≤ 3652059) = true) := Lib.hid (by rw [decide_eq_true_eq]; exact h2)
  have D3 : Hid (decide (1 ≤ c ∧ c ≤ 3652059) = true) := Lib.hid (by rw [decide_eq_true_eq]; exact h3)
  clear h1 h2 h3
  have W0 := Lib.hid w0
  clear w0
  have W1 := Lib.hid w1
  clear w1
  have W2 := Lib.hid w2
  clear w2
  have W3 := Lib.hid w3
  clear w3
  have W4 := Lib.hid w4
  clear w4
  have W5 := Lib.hid w5
  clear w5
  have X1 := Lib.hid (fun v => refadd_is p0 q0 p1 q1 p2 q2 0 v r0 r1 s1)
  have X2 := Lib.hid (fun v => refadd_is p3 q3 p4 q4 p5 q5 0 v r3 r4 s2)
  clear r0 r1 r3 r4 s1 s2
  go_enter Tryd.func7, Tryd.ntmps7
  go_wp2_with fail
  (with_reducible refine (tshown_any K _ (H.lens (List.Mem.head _))).mono ?_)
  rintro e w1 ⟨rfl, hb⟩
  replace H := H.below hb
  clear hb
  go_wp2_with fail
  (with_reducible refine (rday_is a true _ D1.out).mono ?_)
  rintro e w2 ⟨rfl, hb⟩
  replace H := H.below hb
  clear hb
  go_wp2_with fail
  (with_reducible refine (rday_is b true _ D2.out).mono ?_)
  rintro e w3 ⟨rfl, hb⟩
  replace H := H.below hb
  clear hb
  go_wp2_with fail
  (with_reducible refine (rday_is c true _ D3.out).mono ?_)
  rintro e w4 ⟨rfl, hb⟩
  replace H := H.below hb
  clear hb
  go_wp2_with fail
  (with_reducible refine (K.e a b p0 q0 0 _ (H.lens (List.Mem.head _)) W0.out).mono ?_)
  rintro e w5 ⟨rfl, hb⟩
  replace H := H.below hb
  clear hb
  go_wp2_with fail
  replace H := (H.pair (w5.heap.size) (.int .i64 p0) (.int .i64 q0) 26 rfl)
  (with_reducible refine (K.e b c p1 q1 0 _ (H.lens (List.Mem.tail _ (List.Mem.tail _ (List.Mem.tail _ (List.Mem.tail _ (List.Mem.head _)))))) W1.out).mono ?_)
  rintro e w6 ⟨rfl, hb⟩
  replace H := H.below hb
  clear hb
  have cv00 := H.cell (w5.heap.size) 0 (.int .i64 p0) (List.Mem.head _)
  have cv01 := H.cell (w5.heap.size) 1 (.int .i64 q0) (List.Mem.tail _ (List.Mem.head _))
  have lv0 := H.lt (w5.heap.size) 0 (.int .i64 p0) (List.Mem.head _)
  go_wp2_with fail
  clear cv00 cv01 lv0
  replace H := (H.pair (w6.heap.size) (.int .i64 p1) (.int .i64 q1) 26 rfl)
  (with_reducible refine (K.e a c p2 q2 0 _ (H.lens (List.Mem.tail _ (List.Mem.tail _ (List.Mem.tail _ (List.Mem.tail _ (List.Mem.tail _ (List.Mem.tail _ (List.Mem.tail _ (List.Mem.tail _ (List.Mem.head _)))))))))) W2.out).mono ?_)
  rintro e w7 ⟨rfl, hb⟩
  replace H := H.below hb
  clear hb
  have cv00 := H.cell (w5.heap.size) 0 (.int .i64 p0) (List.Mem.tail _ (List.Mem.tail _ (List.Mem.tail _ (List.Mem.tail _ (List.Mem.head _)))))
  have cv01 := H.cell (w5.heap.size) 1 (.int .i64 q0) (List.Mem.tail _ (List.Mem.tail _ (List.Mem.tail _ (List.Mem.tail _ (List.Mem.tail _ (List.Mem.head _))))))
  have lv0 := H.lt (w5.heap.size) 0 (.int .i64 p0) (List.Mem.tail _ (List.Mem.tail _ (List.Mem.tail _ (List.Mem.tail _ (List.Mem.head _)))))
  have cv10 := H.cell (w6.heap.size) 0 (.int .i64 p1) (List.Mem.head _)
  have cv11 := H.cell (w6.heap.size) 1 (.int .i64 q1) (List.Mem.tail _ (List.Mem.head _))
  have lv1 := H.lt (w6.heap.size) 0 (.int .i64 p1) (List.Mem.head _)
  go_wp2_with fail
  clear cv00 cv01 lv0 cv10 cv11 lv1
  replace H := (H.pair (w7.heap.size) (.int .i64 p2) (.int .i64 q2) 26 rfl)
  (with_reducible refine (K.isda a b 0 p3 q3 0 _ (H.lens (List.Mem.tail _ (List.Mem.tail _ (List.Mem.tail _ (List.Mem.tail _ (List.Mem.tail _ (List.Mem.tail _ (List.Mem.tail _ (List.Mem.tail _ (List.Mem.tail _ (List.Mem.tail _ (List.Mem.tail _ (List.Mem.tail _ (List.Mem.head _)))))))))))))) W3.out).mono ?_)
  rintro e w8 ⟨rfl, hb⟩
  replace H := H.below hb
  clear hb
  have cv00 := H.cell (w5.heap.size) 0 (.int .i64 p0) (List.Mem.tail _ (List.Mem.tail _ (List.Mem.tail _ (List.Mem.tail _ (List.Mem.tail _ (List.Mem.tail _ (List.Mem.tail _ (List.Mem.tail _ (List.Mem.head _)))))))))
  have cv01 := H.cell (w5.heap.size) 1 (.int .i64 q0) (List.Mem.tail _ (List.Mem.tail _ (List.Mem.tail _ (List.Mem.tail _ (List.Mem.tail _ (List.Mem.tail _ (List.Mem.tail _ (List.Mem.tail _ (List.Mem.tail _ (List.Mem.head _))))))))))
  have lv0 := H.lt (w5.heap.size) 0 (.int .i64 p0) (List.Mem.tail _ (List.Mem.tail _ (List.Mem.tail _ (List.Mem.tail _ (List.Mem.tail _ (List.Mem.tail _ (List.Mem.tail _ (List.Mem.tail _ (List.Mem.head _)))))))))
  have cv10 := H.cell (w6.heap.size) 0 (.int .i64 p1) (List.Mem.tail _ (List.Mem.tail _ (List.Mem.tail _ (List.Mem.tail _ (List.Mem.head _)))))
  have cv11 := H.cell (w6.heap.size) 1 (.int .i64 q1) (List.Mem.tail _ (List.Mem.tail _ (List.Mem.tail _ (List.Mem.tail _ (List.Mem.tail _ (List.Mem.head _))))))
  have lv1 := H.lt (w6.heap.size) 0 (.int .i64 p1) (List.Mem.tail _ (List.Mem.tail _ (List.Mem.tail _ (List.Mem.tail _ (List.Mem.head _)))))
  have cv20 := H.cell (w7.heap.size) 0 (.int .i64 p2) (List.Mem.head _)
  have cv21 := H.cell (w7.heap.size) 1 (.int .i64 q2) (List.Mem.tail _ (List.Mem.head _))
  have lv2 := H.lt (w7.heap.size) 0 (.int .i64 p2) (List.Mem.head _)
  go_wp2_with fail
  clear cv00 cv01 lv0 cv10 cv11 lv1 cv20 cv21 lv2
  replace H := (H.pair (w8.heap.size) (.int .i64 p3) (.int .i64 q3) 26 rfl)
  (with_reducible refine (K.isda b c 0 p4 q4 0 _ (H.lens (List.Mem.tail _ (List.Mem.tail _ (List.Mem.tail _ (List.Mem.tail _ (List.Mem.tail _ (List.Mem.tail _ (List.Mem.tail _ (List.Mem.tail _ (List.Mem.tail _ (List.Mem.tail _ (List.Mem.tail _ (List.Mem.tail _ (List.Mem.tail _ (List.Mem.tail _ (List.Mem.tail _ (List.Mem.tail _ (List.Mem.head _)))))))))))))))))) W4.out).mono ?_)
  rintro e w9 ⟨rfl, hb⟩
  replace H := H.below hb
  clear hb
  have cv00 := H.cell (w5.heap.size) 0 (.int .i64 p0) (List.Mem.tail _ (List.Mem.tail _ (List.Mem.tail _ (List.Mem.tail _ (List.Mem.tail _ (List.Mem.tail _ (List.Mem.tail _ (List.Mem.tail _ (List.Mem.tail _ (List.Mem.tail _ (List.Mem.tail _ (List.Mem.tail _ (List.Mem.head _)))))))))))))
  have cv01 := H.cell (w5.heap.size) 1 (.int .i64 q0) (List.Mem.tail _ (List.Mem.tail _ (List.Mem.tail _ (List.Mem.tail _ (List.Mem.tail _ (List.Mem.tail _ (List.Mem.tail _ (List.Mem.tail _ (List.Mem.tail _ (List.Mem.tail _ (List.Mem.tail _ (List.Mem.tail _ (List.Mem.tail _ (List.Mem.head _))))))))))))))
  have lv0 := H.lt (w5.heap.size) 0 (.int .i64 p0) (List.Mem.tail _ (List.Mem.tail _ (List.Mem.tail _ (List.Mem.tail _ (List.Mem.tail _ (List.Mem.tail _ (List.Mem.tail _ (List.Mem.tail _ (List.Mem.tail _ (List.Mem.tail _ (List.Mem.tail _ (List.Mem.tail _ (List.Mem.head _)))))))))))))
  have cv10 := H.cell (w6.heap.size) 0 (.int .i64 p1) (List.Mem.tail _ (List.Mem.tail _ (List.Mem.tail _ (List.Mem.tail _ (List.Mem.tail _ (List.Mem.tail _ (List.Mem.tail _ (List.Mem.tail _ (List.Mem.head _)))))))))
  have cv11 := H.cell (w6.heap.size) 1 (.int .i64 q1) (List.Mem.tail _ (List.Mem.tail _ (List.Mem.tail _ (List.Mem.tail _ (List.Mem.tail _ (List.Mem.tail _ (List.Mem.tail _ (List.Mem.tail _ (List.Mem.tail _ (List.Mem.head _))))))))))
  have lv1 := H.lt (w6.heap.size) 0 (.int .i64 p1) (List.Mem.tail _ (List.Mem.tail _ (List.Mem.tail _ (List.Mem.tail _ (List.Mem.tail _ (List.Mem.tail _ (List.Mem.tail _ (List.Mem.tail _ (List.Mem.head _)))))))))
  have cv20 := H.cell (w7.heap.size) 0 (.int .i64 p2) (List.Mem.tail _ (List.Mem.tail _ (List.Mem.tail _ (List.Mem.tail _ (List.Mem.head _)))))
  have cv21 := H.cell (w7.heap.size) 1 (.int .i64 q2) (List.Mem.tail _ (List.Mem.tail _ (List.Mem.tail _ (List.Mem.tail _ (List.Mem.tail _ (List.Mem.head _))))))
  have lv2 := H.lt (w7.heap.size) 0 (.int .i64 p2) (List.Mem.tail _ (List.Mem.tail _ (List.Mem.tail _ (List.Mem.tail _ (List.Mem.head _)))))
  have cv30 := H.cell (w8.heap.size) 0 (.int .i64 p3) (List.Mem.head _)
  have cv31 := H.cell (w8.heap.size) 1 (.int .i64 q3) (List.Mem.tail _ (List.Mem.head _))
  have lv3 := H.lt (w8.heap.size) 0 (.int .i64 p3) (List.Mem.head _)
  go_wp2_with fail
  clear cv00 cv01 lv0 cv10 cv11 lv1 cv20 cv21 lv2 cv30 cv31 lv3
  replace H := (H.pair (w9.heap.size) (.int .i64 p4) (.int .i64 q4) 26 rfl)
  (with_reducible refine (K.isda a c 0 p5 q5 0 _ (H.lens (List.Mem.tail _ (List.Mem.tail _ (List.Mem.tail _ (List.Mem.tail _ (List.Mem.tail _ (List.Mem.tail _ (List.Mem.tail _ (List.Mem.tail _ (List.Mem.tail _ (List.Mem.tail _ (List.Mem.tail _ (List.Mem.tail _ (List.Mem.tail _ (List.Mem.tail _ (List.Mem.tail _ (List.Mem.tail _ (List.Mem.tail _ (List.Mem.tail _ (List.Mem.tail _ (List.Mem.tail _ (List.Mem.head _)))))))))))))))))))))) W5.out).mono ?_)
  rintro e w10 ⟨rfl, hb⟩
  replace H := H.below hb
  clear hb
  have cv00 := H.cell (w5.heap.size) 0 (.int .i64 p0) (List.Mem.tail _ (List.Mem.tail _ (List.Mem.tail _ (List.Mem.tail _ (List.Mem.tail _ (List.Mem.tail _ (List.Mem.tail _ (List.Mem.tail _ (List.Mem.tail _ (List.Mem.tail _ (List.Mem.tail _ (List.Mem.tail _ (List.Mem.tail _ (List.Mem.tail _ (List.Mem.tail _ (List.Mem.tail _ (List.Mem.head _)))))))))))))))))
  have cv01 := H.cell (w5.heap.size) 1 (.int .i64 q0) (List.Mem.tail _ (List.Mem.tail _ (List.Mem.tail _ (List.Mem.tail _ (List.Mem.tail _ (List.Mem.tail _ (List.Mem.tail _ (List.Mem.tail _ (List.Mem.tail _ (List.Mem.tail _ (List.Mem.tail _ (List.Mem.tail _ (List.Mem.tail _ (List.Mem.tail _ (List.Mem.tail _ (List.Mem.tail _ (List.Mem.tail _ (List.Mem.head _))))))))))))))))))
  have lv0 := H.lt (w5.heap.size) 0 (.int .i64 p0) (List.Mem.tail _ (List.Mem.tail _ (List.Mem.tail _ (List.Mem.tail _ (List.Mem.tail _ (List.Mem.tail _ (List.Mem.tail _ (List.Mem.tail _ (List.Mem.tail _ (List.Mem.tail _ (List.Mem.tail _ (List.Mem.tail _ (List.Mem.tail _ (List.Mem.tail _ (List.Mem.tail _ (List.Mem.tail _ (List.Mem.head _)))))))))))))))))
  have cv10 := H.cell (w6.heap.size) 0 (.int .i64 p1) (List.Mem.tail _ (List.Mem.tail _ (List.Mem.tail _ (List.Mem.tail _ (List.Mem.tail _ (List.Mem.tail _ (List.Mem.tail _ (List.Mem.tail _ (List.Mem.tail _ (List.Mem.tail _ (List.Mem.tail _ (List.Mem.tail _ (List.Mem.head _)))))))))))))
  have cv11 := H.cell (w6.heap.size) 1 (.int .i64 q1) (List.Mem.tail _ (List.Mem.tail _ (List.Mem.tail _ (List.Mem.tail _ (List.Mem.tail _ (List.Mem.tail _ (List.Mem.tail _ (List.Mem.tail _ (List.Mem.tail _ (List.Mem.tail _ (List.Mem.tail _ (List.Mem.tail _ (List.Mem.tail _ (List.Mem.head _))))))))))))))
  have lv1 := H.lt (w6.heap.size) 0 (.int .i64 p1) (List.Mem.tail _ (List.Mem.tail _ (List.Mem.tail _ (List.Mem.tail _ (List.Mem.tail _ (List.Mem.tail _ (List.Mem.tail _ (List.Mem.tail _ (List.Mem.tail _ (List.Mem.tail _ (List.Mem.tail _ (List.Mem.tail _ (List.Mem.head _)))))))))))))
  have cv20 := H.cell (w7.heap.size) 0 (.int .i64 p2) (List.Mem.tail _ (List.Mem.tail _ (List.Mem.tail _ (List.Mem.tail _ (List.Mem.tail _ (List.Mem.tail _ (List.Mem.tail _ (List.Mem.tail _ (List.Mem.head _)))))))))
  have cv21 := H.cell (w7.heap.size) 1 (.int .i64 q2) (List.Mem.tail _ (List.Mem.tail _ (List.Mem.tail _ (List.Mem.tail _ (List.Mem.tail _ (List.Mem.tail _ (List.Mem.tail _ (List.Mem.tail _ (List.Mem.tail _ (List.Mem.head _))))))))))
  have lv2 := H.lt (w7.heap.size) 0 (.int .i64 p2) (List.Mem.tail _ (List.Mem.tail _ (List.Mem.tail _ (List.Mem.tail _ (List.Mem.tail _ (List.Mem.tail _ (List.Mem.tail _ (List.Mem.tail _ (List.Mem.head _)))))))))
  have cv30 := H.cell (w8.heap.size) 0 (.int .i64 p3) (List.Mem.tail _ (List.Mem.tail _ (List.Mem.tail _ (List.Mem.tail _ (List.Mem.head _)))))
  have cv31 := H.cell (w8.heap.size) 1 (.int .i64 q3) (List.Mem.tail _ (List.Mem.tail _ (List.Mem.tail _ (List.Mem.tail _ (List.Mem.tail _ (List.Mem.head _))))))
  have lv3 := H.lt (w8.heap.size) 0 (.int .i64 p3) (List.Mem.tail _ (List.Mem.tail _ (List.Mem.tail _ (List.Mem.tail _ (List.Mem.head _)))))
  have cv40 := H.cell (w9.heap.size) 0 (.int .i64 p4) (List.Mem.head _)
  have cv41 := H.cell (w9.heap.size) 1 (.int .i64 q4) (List.Mem.tail _ (List.Mem.head _))
  have lv4 := H.lt (w9.heap.size) 0 (.int .i64 p4) (List.Mem.head _)
  go_wp2_with fail
  clear cv00 cv01 lv0 cv10 cv11 lv1 cv20 cv21 lv2 cv30 cv31 lv3 cv40 cv41 lv4
  replace H := (H.pair (w10.heap.size) (.int .i64 p5) (.int .i64 q5) 26 rfl)
  (with_reducible refine (X1.out _).mono ?_)
  rintro e w11 ⟨rfl, hb⟩
  replace H := H.below hb
  clear hb
  have cv00 := H.cell (w5.heap.size) 0 (.int .i64 p0) (List.Mem.tail _ (List.Mem.tail _ (List.Mem.tail _ (List.Mem.tail _ (List.Mem.tail _ (List.Mem.tail _ (List.Mem.tail _ (List.Mem.tail _ (List.Mem.tail _ (List.Mem.tail _ (List.Mem.tail _ (List.Mem.tail _ (List.Mem.tail _ (List.Mem.tail _ (List.Mem.tail _ (List.Mem.tail _ (List.Mem.tail _ (List.Mem.tail _ (List.Mem.tail _ (List.Mem.tail _ (List.Mem.head _)))))))))))))))))))))
  have cv01 := H.cell (w5.heap.size) 1 (.int .i64 q0) (List.Mem.tail _ (List.Mem.tail _ (List.Mem.tail _ (List.Mem.tail _ (List.Mem.tail _ (List.Mem.tail _ (List.Mem.tail _ (List.Mem.tail _ (List.Mem.tail _ (List.Mem.tail _ (List.Mem.tail _ (List.Mem.tail _ (List.Mem.tail _ (List.Mem.tail _ (List.Mem.tail _ (List.Mem.tail _ (List.Mem.tail _ (List.Mem.tail _ (List.Mem.tail _ (List.Mem.tail _ (List.Mem.tail _ (List.Mem.head _))))))))))))))))))))))
  have lv0 := H.lt (w5.heap.size) 0 (.int .i64 p0) (List.Mem.tail _ (List.Mem.tail _ (List.Mem.tail _ (List.Mem.tail _ (List.Mem.tail _ (List.Mem.tail _ (List.Mem.tail _ (List.Mem.tail _ (List.Mem.tail _ (List.Mem.tail _ (List.Mem.tail _ (List.Mem.tail _ (List.Mem.tail _ (List.Mem.tail _ (List.Mem.tail _ (List.Mem.tail _ (List.Mem.tail _ (List.Mem.tail _ (List.Mem.tail _ (List.Mem.tail _ (List.Mem.head _)))))))))))))))))))))
  have cv10 := H.cell (w6.heap.size) 0 (.int .i64 p1) (List.Mem.tail _ (List.Mem.tail _ (List.Mem.tail _ (List.Mem.tail _ (List.Mem.tail _ (List.Mem.tail _ (List.Mem.tail _ (List.Mem.tail _ (List.Mem.tail _ (List.Mem.tail _ (List.Mem.tail _ (List.Mem.tail _ (List.Mem.tail _ (List.Mem.tail _ (List.Mem.tail _ (List.Mem.tail _ (List.Mem.head _)))))))))))))))))
  have cv11 := H.cell (w6.heap.size) 1 (.int .i64 q1) (List.Mem.tail _ (List.Mem.tail _ (List.Mem.tail _ (List.Mem.tail _ (List.Mem.tail _ (List.Mem.tail _ (List.Mem.tail _ (List.Mem.tail _ (List.Mem.tail _ (List.Mem.tail _ (List.Mem.tail _ (List.Mem.tail _ (List.Mem.tail _ (List.Mem.tail _ (List.Mem.tail _ (List.Mem.tail _ (List.Mem.tail _ (List.Mem.head _))))))))))))))))))
  have lv1 := H.lt (w6.heap.size) 0 (.int .i64 p1) (List.Mem.tail _ (List.Mem.tail _ (List.Mem.tail _ (List.Mem.tail _ (List.Mem.tail _ (List.Mem.tail _ (List.Mem.tail _ (List.Mem.tail _ (List.Mem.tail _ (List.Mem.tail _ (List.Mem.tail _ (List.Mem.tail _ (List.Mem.tail _ (List.Mem.tail _ (List.Mem.tail _ (List.Mem.tail _ (List.Mem.head _)))))))))))))))))
  have cv20 := H.cell (w7.heap.size) 0 (.int .i64 p2) (List.Mem.tail _ (List.Mem.tail _ (List.Mem.tail _ (List.Mem.tail _ (List.Mem.tail _ (List.Mem.tail _ (List.Mem.tail _ (List.Mem.tail _ (List.Mem.tail _ (List.Mem.tail _ (List.Mem.tail _ (List.Mem.tail _ (List.Mem.head _)))))))))))))
  have cv21 := H.cell (w7.heap.size) 1 (.int .i64 q2) (List.Mem.tail _ (List.Mem.tail _ (List.Mem.tail _ (List.Mem.tail _ (List.Mem.tail _ (List.Mem.tail _ (List.Mem.tail _ (List.Mem.tail _ (List.Mem.tail _ (List.Mem.tail _ (List.Mem.tail _ (List.Mem.tail _ (List.Mem.tail _ (List.Mem.head _))))))))))))))
  have lv2 := H.lt (w7.heap.size) 0 (.int .i64 p2) (List.Mem.tail _ (List.Mem.tail _ (List.Mem.tail _ (List.Mem.tail _ (List.Mem.tail _ (List.Mem.tail _ (List.Mem.tail _ (List.Mem.tail _ (List.Mem.tail _ (List.Mem.tail _ (List.Mem.tail _ (List.Mem.tail _ (List.Mem.head _)))))))))))))
  have cv30 := H.cell (w8.heap.size) 0 (.int .i64 p3) (List.Mem.tail _ (List.Mem.tail _ (List.Mem.tail _ (List.Mem.tail _ (List.Mem.tail _ (List.Mem.tail _ (List.Mem.tail _ (List.Mem.tail _ (List.Mem.head _)))))))))
  have cv31 := H.cell (w8.heap.size) 1 (.int .i64 q3) (List.Mem.tail _ (List.Mem.tail _ (List.Mem.tail _ (List.Mem.tail _ (List.Mem.tail _ (List.Mem.tail _ (List.Mem.tail _ (List.Mem.tail _ (List.Mem.tail _ (List.Mem.head _))))))))))
  have lv3 := H.lt (w8.heap.size) 0 (.int .i64 p3) (List.Mem.tail _ (List.Mem.tail _ (List.Mem.tail _ (List.Mem.tail _ (List.Mem.tail _ (List.Mem.tail _ (List.Mem.tail _ (List.Mem.tail _ (List.Mem.head _)))))))))
  have cv40 := H.cell (w9.heap.size) 0 (.int .i64 p4) (List.Mem.tail _ (List.Mem.tail _ (List.Mem.tail _ (List.Mem.tail _ (List.Mem.head _)))))
  have cv41 := H.cell (w9.heap.size) 1 (.int .i64 q4) (List.Mem.tail _ (List.Mem.tail _ (List.Mem.tail _ (List.Mem.tail _ (List.Mem.tail _ (List.Mem.head _))))))
  have lv4 := H.lt (w9.heap.size) 0 (.int .i64 p4) (List.Mem.tail _ (List.Mem.tail _ (List.Mem.tail _ (List.Mem.tail _ (List.Mem.head _)))))
  have cv50 := H.cell (w10.heap.size) 0 (.int .i64 p5) (List.Mem.head _)
  have cv51 := H.cell (w10.heap.size) 1 (.int .i64 q5) (List.Mem.tail _ (List.Mem.head _))
  have lv5 := H.lt (w10.heap.size) 0 (.int .i64 p5) (List.Mem.head _)
  go_wp2_with fail
  clear cv00 cv01 lv0 cv10 cv11 lv1 cv20 cv21 lv2 cv30 cv31 lv3 cv40 cv41 lv4 cv50 cv51 lv5
  replace H := (H.pair (w11.heap.size) (.int .i64 p2) (.int .i64 q2) 26 rfl)
  (with_reducible refine (X2.out _).mono ?_)
  rintro e w12 ⟨rfl, hb⟩
  replace H := H.below hb
  clear hb
  have cv00 := H.cell (w5.heap.size) 0 (.int .i64 p0) (List.Mem.tail _ (List.Mem.tail _ (List.Mem.tail _ (List.Mem.tail _ (List.Mem.tail _ (List.Mem.tail _ (List.Mem.tail _ (List.Mem.tail _ (List.Mem.tail _ (List.Mem.tail _ (List.Mem.tail _ (List.Mem.tail _ (List.Mem.tail _ (List.Mem.tail _ (List.Mem.tail _ (List.Mem.tail _ (List.Mem.tail _ (List.Mem.tail _ (List.Mem.tail _ (List.Mem.tail _ (List.Mem.tail _ (List.Mem.tail _ (List.Mem.tail _ (List.Mem.tail _ (List.Mem.head _)))))))))))))))))))))))))
  have cv01 := H.cell (w5.heap.size) 1 (.int .i64 q0) (List.Mem.tail _ (List.Mem.tail _ (List.Mem.tail _ (List.Mem.tail _ (List.Mem.tail _ (List.Mem.tail _ (List.Mem.tail _ (List.Mem.tail _ (List.Mem.tail _ (List.Mem.tail _ (List.Mem.tail _ (List.Mem.tail _ (List.Mem.tail _ (List.Mem.tail _ (List.Mem.tail _ (List.Mem.tail _ (List.Mem.tail _ (List.Mem.tail _ (List.Mem.tail _ (List.Mem.tail _ (List.Mem.tail _ (List.Mem.tail _ (List.Mem.tail _ (List.Mem.tail _ (List.Mem.tail _ (List.Mem.head _))))))))))))))))))))))))))
  have lv0 := H.lt (w5.heap.size) 0 (.int .i64 p0) (List.Mem.tail _ (List.Mem.tail _ (List.Mem.tail _ (List.Mem.tail _ (List.Mem.tail _ (List.Mem.tail _ (List.Mem.tail _ (List.Mem.tail _ (List.Mem.tail _ (List.Mem.tail _ (List.Mem.tail _ (List.Mem.tail _ (List.Mem.tail _ (List.Mem.tail _ (List.Mem.tail _ (List.Mem.tail _ (List.Mem.tail _ (List.Mem.tail _ (List.Mem.tail _ (List.Mem.tail _ (List.Mem.tail _ (List.Mem.tail _ (List.Mem.tail _ (List.Mem.tail _ (List.Mem.head _)))))))))))))))))))))))))
  have cv10 := H.cell (w6.heap.size) 0 (.int .i64 p1) (List.Mem.tail _ (List.Mem.tail _ (List.Mem.tail _ (List.Mem.tail _ (List.Mem.tail _ (List.Mem.tail _ (List.Mem.tail _ (List.Mem.tail _ (List.Mem.tail _ (List.Mem.tail _ (List.Mem.tail _ (List.Mem.tail _ (List.Mem.tail _ (List.Mem.tail _ (List.Mem.tail _ (List.Mem.tail _ (List.Mem.tail _ (List.Mem.tail _ (List.Mem.tail _ (List.Mem.tail _ (List.Mem.head _)))))))))))))))))))))
  have cv11 := H.cell (w6.heap.size) 1 (.int .i64 q1) (List.Mem.tail _ (List.Mem.tail _ (List.Mem.tail _ (List.Mem.tail _ (List.Mem.tail _ (List.Mem.tail _ (List.Mem.tail _ (List.Mem.tail _ (List.Mem.tail _ (List.Mem.tail _ (List.Mem.tail _ (List.Mem.tail _ (List.Mem.tail _ (List.Mem.tail _ (List.Mem.tail _ (List.Mem.tail _ (List.Mem.tail _ (List.Mem.tail _ (List.Mem.tail _ (List.Mem.tail _ (List.Mem.tail _ (List.Mem.head _))))))))))))))))))))))
  have lv1 := H.lt (w6.heap.size) 0 (.int .i64 p1) (List.Mem.tail _ (List.Mem.tail _ (List.Mem.tail _ (List.Mem.tail _ (List.Mem.tail _ (List.Mem.tail _ (List.Mem.tail _ (List.Mem.tail _ (List.Mem.tail _ (List.Mem.tail _ (List.Mem.tail _ (List.Mem.tail _ (List.Mem.tail _ (List.Mem.tail _ (List.Mem.tail _ (List.Mem.tail _ (List.Mem.tail _ (List.Mem.tail _ (List.Mem.tail _ (List.Mem.tail _ (List.Mem.head _)))))))))))))))))))))
  have cv20 := H.cell (w7.heap.size) 0 (.int .i64 p2) (List.Mem.tail _ (List.Mem.tail _ (List.Mem.tail _ (List.Mem.tail _ (List.Mem.tail _ (List.Mem.tail _ (List.Mem.tail _ (List.Mem.tail _ (List.Mem.tail _ (List.Mem.tail _ (List.Mem.tail _ (List.Mem.tail _ (List.Mem.tail _ (List.Mem.tail _ (List.Mem.tail _ (List.Mem.tail _ (List.Mem.head _)))))))))))))))))
  have cv21 := H.cell (w7.heap.size) 1 (.int .i64 q2) (List.Mem.tail _ (List.Mem.tail _ (List.Mem.tail _ (List.Mem.tail _ (List.Mem.tail _ (List.Mem.tail _ (List.Mem.tail _ (List.Mem.tail _ (List.Mem.tail _ (List.Mem.tail _ (List.Mem.tail _ (List.Mem.tail _ (List.Mem.tail _ (List.Mem.tail _ (List.Mem.tail _ (List.Mem.tail _ (List.Mem.tail _ (List.Mem.head _))))))))))))))))))
  have lv2 := H.lt (w7.heap.size) 0 (.int .i64 p2) (List.Mem.tail _ (List.Mem.tail _ (List.Mem.tail _ (List.Mem.tail _ (List.Mem.tail _ (List.Mem.tail _ (List.Mem.tail _ (List.Mem.tail _ (List.Mem.tail _ (List.Mem.tail _ (List.Mem.tail _ (List.Mem.tail _ (List.Mem.tail _ (List.Mem.tail _ (List.Mem.tail _ (List.Mem.tail _ (List.Mem.head _)))))))))))))))))
  have cv30 := H.cell (w8.heap.size) 0 (.int .i64 p3) (List.Mem.tail _ (List.Mem.tail _ (List.Mem.tail _ (List.Mem.tail _ (List.Mem.tail _ (List.Mem.tail _ (List.Mem.tail _ (List.Mem.tail _ (List.Mem.tail _ (List.Mem.tail _ (List.Mem.tail _ (List.Mem.tail _ (List.Mem.head _)))))))))))))
  have cv31 := H.cell (w8.heap.size) 1 (.int .i64 q3) (List.Mem.tail _ (List.Mem.tail _ (List.Mem.tail _ (List.Mem.tail _ (List.Mem.tail _ (List.Mem.tail _ (List.Mem.tail _ (List.Mem.tail _ (List.Mem.tail _ (List.Mem.tail _ (List.Mem.tail _ (List.Mem.tail _ (List.Mem.tail _ (List.Mem.head _))))))))))))))
  have lv3 := H.lt (w8.heap.size) 0 (.int .i64 p3) (List.Mem.tail _ (List.Mem.tail _ (List.Mem.tail _ (List.Mem.tail _ (List.Mem.tail _ (List.Mem.tail _ (List.Mem.tail _ (List.Mem.tail _ (List.Mem.tail _ (List.Mem.tail _ (List.Mem.tail _ (List.Mem.tail _ (List.Mem.head _)))))))))))))
  have cv40 := H.cell (w9.heap.size) 0 (.int .i64 p4) (List.Mem.tail _ (List.Mem.tail _ (List.Mem.tail _ (List.Mem.tail _ (List.Mem.tail _ (List.Mem.tail _ (List.Mem.tail _ (List.Mem.tail _ (List.Mem.head _)))))))))
  have cv41 := H.cell (w9.heap.size) 1 (.int .i64 q4) (List.Mem.tail _ (List.Mem.tail _ (List.Mem.tail _ (List.Mem.tail _ (List.Mem.tail _ (List.Mem.tail _ (List.Mem.tail _ (List.Mem.tail _ (List.Mem.tail _ (List.Mem.head _))))))))))
  have lv4 := H.lt (w9.heap.size) 0 (.int .i64 p4) (List.Mem.tail _ (List.Mem.tail _ (List.Mem.tail _ (List.Mem.tail _ (List.Mem.tail _ (List.Mem.tail _ (List.Mem.tail _ (List.Mem.tail _ (List.Mem.head _)))))))))
  have cv50 := H.cell (w10.heap.size) 0 (.int .i64 p5) (List.Mem.tail _ (List.Mem.tail _ (List.Mem.tail _ (List.Mem.tail _ (List.Mem.head _)))))
  have cv51 := H.cell (w10.heap.size) 1 (.int .i64 q5) (List.Mem.tail _ (List.Mem.tail _ (List.Mem.tail _ (List.Mem.tail _ (List.Mem.tail _ (List.Mem.head _))))))
  have lv5 := H.lt (w10.heap.size) 0 (.int .i64 p5) (List.Mem.tail _ (List.Mem.tail _ (List.Mem.tail _ (List.Mem.tail _ (List.Mem.head _)))))
  have cx0 := H.cell (w11.heap.size) 0 (.int .i64 p2) (List.Mem.head _)
  have cx1 := H.cell (w11.heap.size) 1 (.int .i64 q2) (List.Mem.tail _ (List.Mem.head _))
  have lx := H.lt (w11.heap.size) 0 (.int .i64 p2) (List.Mem.head _)
  go_wp2_with fail
  clear cv00 cv01 lv0 cv10 cv11 lv1 cv20 cv21 lv2 cv30 cv31 lv3 cv40 cv41 lv4 cv50 cv51 lv5 cx0 cx1 lx
  replace H := (H.pair (w12.heap.size) (.int .i64 p5) (.int .i64 q5) 26 rfl)
  go_ret
  exact ⟨rfl, H.old⟩

theorem tadds_walk (K : Ways) (a b c : Int) (w : World) (hL : Lens w) (ha : -9223372036854775808 ≤ a ∧ a < 9223372036854775808) (hb : -9223372036854775808 ≤ b ∧ b < 9223372036854775808) (hc : -9223372036854775808 ≤ c ∧ c < 9223372036854775808) :
    Calls Tryd.prog 7 #[.int .i64 a, .int .i64 b, .int .i64 c] w fun e w' => e = .returned (.bool true) ∧ Below w.heap.size w w' := by
  by_cases h1 : a < 1 ∨ 3652059 < a
  · exact tadds_a K a b c w hL h1
  · by_cases h2 : b < 1 ∨ 3652059 < b
    · exact tadds_b K a b c w hL (by omega) h2
    · by_cases h3 : c < 1 ∨ 3652059 < c
      · exact tadds_c K a b c w hL (by omega) (by omega) h3
      · by_cases h4 : a > b
        · exact tadds_ab K a b c w hL (by omega) (by omega) (by omega) h4
        · by_cases h5 : b > c
          · exact tadds_bc K a b c w hL (by omega) (by omega) (by omega) h4 h5
          · obtain ⟨y1, m1, d1, a1, a2⟩ := day_of a (by omega) (by omega)
            obtain ⟨y2, m2, d2, b1, b2⟩ := day_of b (by omega) (by omega)
            obtain ⟨y3, m3, d3, c1, c2⟩ := day_of c (by omega) (by omega)
            have zb : decide (b = 0) = false := decide_eq_false (by omega)
            have zc : decide (c = 0) = false := decide_eq_false (by omega)
            have e12 := eX_raw _ _ _ _ _ _ a1 b1 (by omega)
            have e23 := eX_raw _ _ _ _ _ _ b1 c1 (by omega)
            have i12 := iX_raw _ _ _ _ _ _ a1 b1 (by omega)
            have i23 := iX_raw _ _ _ _ _ _ b1 c1 (by omega)
            have sE : eX y1 m1 d1 y2 m2 d2 + eX y2 m2 d2 y3 m3 d3 = eX y1 m1 d1 y3 m3 d3 := px_add _ _ _ _ _ _ _ _ _ e12 e23
            have sI : iX false y1 m1 d1 y2 m2 d2 + iX false y2 m2 d2 y3 m3 d3 = iX false y1 m1 d1 y3 m3 d3 := by
              unfold iX; rw [isB_no, isB_no]; exact px_add _ _ _ _ _ _ _ _ _ i12 i23
            have cb : ∀ y m d, may y m d → 0 ≤ cutD d ∧ cutD d ≤ 31 := fun y m d h => by
              obtain ⟨-, -, -, -, h5, h6⟩ := h
              have := ln_le y m
              have := cutD_bd d h5 (by omega)
              omega
            have fb : ∀ y m d, may y m d → 0 ≤ fulD y m d ∧ fulD y m d ≤ 31 := fun y m d h => by
              have := fulD_bd y m d h
              omega
            have E12 := px_most _ _ _ _ _ _ _ _ a1 b1 (cb _ _ _ a1) (cb _ _ _ b1)
            have E23 := px_most _ _ _ _ _ _ _ _ b1 c1 (cb _ _ _ b1) (cb _ _ _ c1)
            have E13 := px_most _ _ _ _ _ _ _ _ a1 c1 (cb _ _ _ a1) (cb _ _ _ c1)
            have I12 := px_most _ _ _ _ _ _ _ _ a1 b1 (fb _ _ _ a1) (fb _ _ _ b1)
            have I23 := px_most _ _ _ _ _ _ _ _ b1 c1 (fb _ _ _ b1) (fb _ _ _ c1)
            have I13 := px_most _ _ _ _ _ _ _ _ a1 c1 (fb _ _ _ a1) (fb _ _ _ c1)
            rw [show px y1 m1 (cutD d1) y2 m2 (cutD d2) = eX y1 m1 d1 y2 m2 d2 from rfl] at E12
            rw [show px y2 m2 (cutD d2) y3 m3 (cutD d3) = eX y2 m2 d2 y3 m3 d3 from rfl] at E23
            rw [show px y1 m1 (cutD d1) y3 m3 (cutD d3) = eX y1 m1 d1 y3 m3 d3 from rfl, ← sE] at E13
            rw [show px y1 m1 (fulD y1 m1 d1) y2 m2 (fulD y2 m2 d2) = iX false y1 m1 d1 y2 m2 d2 by unfold iX; rw [isB_no]] at I12
            rw [show px y2 m2 (fulD y2 m2 d2) y3 m3 (fulD y3 m3 d3) = iX false y2 m2 d2 y3 m3 d3 by unfold iX; rw [isB_no]] at I23
            rw [show px y1 m1 (fulD y1 m1 d1) y3 m3 (fulD y3 m3 d3) = iX false y1 m1 d1 y3 m3 d3 by unfold iX; rw [isB_no], ← sI] at I13
            refine tadds_in K a b c _ _ _ _ _ _ _ _ _ _ _ _ w hL (by omega) (by omega) (by omega) h4 h5
              (part_in y1 m1 d1 y2 m2 d2 a1 a2 b1 b2 (by omega) _ rfl rfl rfl) (part_in y2 m2 d2 y3 m3 d3 b1 b2 c1 c2 (by omega) _ rfl rfl rfl) (part_in y1 m1 d1 y3 m3 d3 a1 a2 c1 c2 (by omega) _ sE.symm rfl rfl)
              (by rw [zb]; exact part_in y1 m1 d1 y2 m2 d2 a1 a2 b1 b2 (by omega) _ rfl rfl rfl) (by rw [zc]; exact part_in y2 m2 d2 y3 m3 d3 b1 b2 c1 c2 (by omega) _ rfl rfl rfl) (by rw [zc]; exact part_in y1 m1 d1 y3 m3 d3 a1 a2 c1 c2 (by omega) _ sI.symm rfl rfl)
              (part_right _ E12.1 E12.2) (part_right _ E23.1 E23.2) (part_right _ I12.1 I12.2) (part_right _ I23.1 I23.2)
              (part_add _ _ E12.1 E12.2 E23.1 E23.2 E13.2) (part_add _ _ I12.1 I12.2 I23.1 I23.2 I13.2)
end Go.Proofs.YtkmjaoiehmddcaaDoor
