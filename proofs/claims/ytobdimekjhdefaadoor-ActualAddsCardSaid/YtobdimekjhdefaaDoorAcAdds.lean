/- ActualAdds: the walk. -/
import Derived.Test.YtobdimekjhdefaaDoorAcShown
namespace Go.Proofs.YtobdimekjhdefaaDoor
open Go.RowKit
set_option linter.unusedVariables false
set_option linter.unusedSimpArgs false

set_option maxHeartbeats 4000000 in
set_option maxRecDepth 100000 in
theorem aadds_a (K : Ways) (a b c : Int) (w : World) (hL : Facts w) (h : a < 1 ∨ 3652059 < a) :
    Calls Tryd.prog 4 #[.int .i64 a, .int .i64 b, .int .i64 c] w fun e w' => e = .returned (.bool true) ∧ Below w.heap.size w w' := by
  have H := (Held.start w).add (f := factsF) hL
  clear hL
  have D1 : Hid (decide (1 ≤ a ∧ a ≤ 3652059) = false) := Lib.hid (by rw [decide_eq_false_iff_not]; omega)
  clear h
  go_enter Tryd.func4, Tryd.ntmps4
  go_wp2_with fail
  (with_reducible refine (ashown_any K _ (H.facts (List.Mem.head _))).mono ?_)
  rintro e w1 ⟨rfl, hb⟩
  replace H := H.below hb
  clear hb
  go_wp2_with fail
  (with_reducible refine (rday_is a false _ D1.out).mono ?_)
  rintro e w2 ⟨rfl, hb⟩
  replace H := H.below hb
  clear hb
  go_wp2_with fail
  go_ret
  exact ⟨rfl, H.old⟩

set_option maxHeartbeats 4000000 in
set_option maxRecDepth 100000 in
theorem aadds_b (K : Ways) (a b c : Int) (w : World) (hL : Facts w) (h1 : 1 ≤ a ∧ a ≤ 3652059) (h : b < 1 ∨ 3652059 < b) :
    Calls Tryd.prog 4 #[.int .i64 a, .int .i64 b, .int .i64 c] w fun e w' => e = .returned (.bool true) ∧ Below w.heap.size w w' := by
  have H := (Held.start w).add (f := factsF) hL
  clear hL
  have D1 : Hid (decide (1 ≤ a ∧ a ≤ 3652059) = true) := Lib.hid (by rw [decide_eq_true_eq]; exact h1)
  have D2 : Hid (decide (1 ≤ b ∧ b ≤ 3652059) = false) := Lib.hid (by rw [decide_eq_false_iff_not]; omega)
  clear h h1
  go_enter Tryd.func4, Tryd.ntmps4
  go_wp2_with fail
  (with_reducible refine (ashown_any K _ (H.facts (List.Mem.head _))).mono ?_)
  rintro e w1 ⟨rfl, hb⟩
  replace H := H.below hb
  clear hb
  go_wp2_with fail
  (with_reducible refine (rday_is a true _ D1.out).mono ?_)
  rintro e w2 ⟨rfl, hb⟩
  replace H := H.below hb
  clear hb
  go_wp2_with fail
  (with_reducible refine (rday_is b false _ D2.out).mono ?_)
  rintro e w3 ⟨rfl, hb⟩
  replace H := H.below hb
  clear hb
  go_wp2_with fail
  go_ret
  exact ⟨rfl, H.old⟩

set_option maxHeartbeats 4000000 in
set_option maxRecDepth 100000 in
theorem aadds_c (K : Ways) (a b c : Int) (w : World) (hL : Facts w) (h1 : 1 ≤ a ∧ a ≤ 3652059) (h2 : 1 ≤ b ∧ b ≤ 3652059) (h : c < 1 ∨ 3652059 < c) :
    Calls Tryd.prog 4 #[.int .i64 a, .int .i64 b, .int .i64 c] w fun e w' => e = .returned (.bool true) ∧ Below w.heap.size w w' := by
  have H := (Held.start w).add (f := factsF) hL
  clear hL
  have D1 : Hid (decide (1 ≤ a ∧ a ≤ 3652059) = true) := Lib.hid (by rw [decide_eq_true_eq]; exact h1)
  have D2 : Hid (decide (1 ≤ b ∧ b ≤ 3652059) = true) := Lib.hid (by rw [decide_eq_true_eq]; exact h2)
  have D3 : Hid (decide (1 ≤ c ∧ c ≤ 3652059) = false) := Lib.hid (by rw [decide_eq_false_iff_not]; omega)
  clear h h1 h2
  go_enter Tryd.func4, Tryd.ntmps4
  go_wp2_with fail
  (with_reducible refine (ashown_any K _ (H.facts (List.Mem.head _))).mono ?_)
  rintro e w1 ⟨rfl, hb⟩
  replace H := H.below hb
  clear hb
  go_wp2_with fail
  (with_reducible refine (rday_is a true _ D1.out).mono ?_)
  rintro e w2 ⟨rfl, hb⟩
  replace H := H.below hb
  clear hb
  go_wp2_with fail
  (with_reducible refine (rday_is b true _ D2.out).mono ?_)
  rintro e w3 ⟨rfl, hb⟩
  replace H := H.below hb
  clear hb
  go_wp2_with fail
  (with_reducible refine (rday_is c false _ D3.out).mono ?_)
  rintro e w4 ⟨rfl, hb⟩
  replace H := H.below hb
  clear hb
  go_wp2_with fail
  go_ret
  exact ⟨rfl, H.old⟩

set_option maxHeartbeats 4000000 in
set_option maxRecDepth 100000 in
theorem aadds_ab (K : Ways) (a b c : Int) (w : World) (hL : Facts w) (h1 : 1 ≤ a ∧ a ≤ 3652059) (h2 : 1 ≤ b ∧ b ≤ 3652059) (h3 : 1 ≤ c ∧ c ≤ 3652059) (h : a > b) :
    Calls Tryd.prog 4 #[.int .i64 a, .int .i64 b, .int .i64 c] w fun e w' => e = .returned (.bool true) ∧ Below w.heap.size w w' := by
  have H := (Held.start w).add (f := factsF) hL
  clear hL
  have D1 : Hid (decide (1 ≤ a ∧ a ≤ 3652059) = true) := Lib.hid (by rw [decide_eq_true_eq]; exact h1)
  have D2 : Hid (decide (1 ≤ b ∧ b ≤ 3652059) = true) := Lib.hid (by rw [decide_eq_true_eq]; exact h2)
  have D3 : Hid (decide (1 ≤ c ∧ c ≤ 3652059) = true) := Lib.hid (by rw [decide_eq_true_eq]; exact h3)
  clear h1 h2 h3
  go_enter Tryd.func4, Tryd.ntmps4
  go_wp2_with fail
  (with_reducible refine (ashown_any K _ (H.facts (List.Mem.head _))).mono ?_)
  rintro e w1 ⟨rfl, hb⟩
  replace H := H.below hb
  clear hb
  go_wp2_with fail
  (with_reducible refine (rday_is a true _ D1.out).mono ?_)
  rintro e w2 ⟨rfl, hb⟩
  replace H := H.below hb
  clear hb
  go_wp2_with fail
  (with_reducible refine (rday_is b true _ D2.out).mono ?_)
  rintro e w3 ⟨rfl, hb⟩
  replace H := H.below hb
  clear hb
  go_wp2_with fail
  (with_reducible refine (rday_is c true _ D3.out).mono ?_)
  rintro e w4 ⟨rfl, hb⟩
  replace H := H.below hb
  clear hb
  go_wp2_with fail
  go_ret
  exact ⟨rfl, H.old⟩

set_option maxHeartbeats 4000000 in
set_option maxRecDepth 100000 in
theorem aadds_bc (K : Ways) (a b c : Int) (w : World) (hL : Facts w) (h1 : 1 ≤ a ∧ a ≤ 3652059) (h2 : 1 ≤ b ∧ b ≤ 3652059) (h3 : 1 ≤ c ∧ c ≤ 3652059) (g : ¬ a > b) (h : b > c) :
    Calls Tryd.prog 4 #[.int .i64 a, .int .i64 b, .int .i64 c] w fun e w' => e = .returned (.bool true) ∧ Below w.heap.size w w' := by
  have H := (Held.start w).add (f := factsF) hL
  clear hL
  have D1 : Hid (decide (1 ≤ a ∧ a ≤ 3652059) = true) := Lib.hid (by rw [decide_eq_true_eq]; exact h1)
  have D2 : Hid (decide (1 ≤ b ∧ b ≤ 3652059) = true) := Lib.hid (by rw [decide_eq_true_eq]; exact h2)
  have D3 : Hid (decide (1 ≤ c ∧ c ≤ 3652059) = true) := Lib.hid (by rw [decide_eq_true_eq]; exact h3)
  clear h1 h2 h3
  go_enter Tryd.func4, Tryd.ntmps4
  go_wp2_with fail
  (with_reducible refine (ashown_any K _ (H.facts (List.Mem.head _))).mono ?_)
  rintro e w1 ⟨rfl, hb⟩
  replace H := H.below hb
  clear hb
  go_wp2_with fail
  (with_reducible refine (rday_is a true _ D1.out).mono ?_)
  rintro e w2 ⟨rfl, hb⟩
  replace H := H.below hb
  clear hb
  go_wp2_with fail
  (with_reducible refine (rday_is b true _ D2.out).mono ?_)
  rintro e w3 ⟨rfl, hb⟩
  replace H := H.below hb
  clear hb
  go_wp2_with fail
  (with_reducible refine (rday_is c true _ D3.out).mono ?_)
  rintro e w4 ⟨rfl, hb⟩
  replace H := H.below hb
  clear hb
  go_wp2_with fail
  go_ret
  exact ⟨rfl, H.old⟩

set_option maxHeartbeats 4000000 in
set_option maxRecDepth 100000 in
theorem aadds_in (K : Ways) (a b c p0 q0 p1 q1 p2 q2 p3 q3 p4 q4 p5 q5 p6 q6 p7 q7 p8 q8 : Int) (w : World) (hL : Facts w) (h1 : 1 ≤ a ∧ a ≤ 3652059) (h2 : 1 ≤ b ∧ b ≤ 3652059) (h3 : 1 ≤ c ∧ c ≤ 3652059) (g : ¬ a > b) (h : ¬ b > c) (w0 : AcIs aX 360 a b p0 q0 0) (w1 : AcIs aX 360 b c p1 q1 0) (w2 : AcIs aX 360 a c p2 q2 0) (w3 : AcIs aX 365 a b p3 q3 0) (w4 : AcIs aX 365 b c p4 q4 0) (w5 : AcIs aX 365 a c p5 q5 0) (w6 : AcIs yX 133590 a b p6 q6 0) (w7 : AcIs yX 133590 b c p7 q7 0) (w8 : AcIs yX 133590 a c p8 q8 0) (r0 : rightB p0 q0 = true) (r1 : rightB p1 q1 = true) (s0 : rN (p0 * q1 + p1 * q0) (q0 * q1) = p2 ∧ rD (p0 * q1 + p1 * q0) (q0 * q1) = q2 ∧ rE (p0 * q1 + p1 * q0) (q0 * q1) = 0) (r3 : rightB p3 q3 = true) (r4 : rightB p4 q4 = true) (s3 : rN (p3 * q4 + p4 * q3) (q3 * q4) = p5 ∧ rD (p3 * q4 + p4 * q3) (q3 * q4) = q5 ∧ rE (p3 * q4 + p4 * q3) (q3 * q4) = 0) (r6 : rightB p6 q6 = true) (r7 : rightB p7 q7 = true) (s6 : rN (p6 * q7 + p7 * q6) (q6 * q7) = p8 ∧ rD (p6 * q7 + p7 * q6) (q6 * q7) = q8 ∧ rE (p6 * q7 + p7 * q6) (q6 * q7) = 0) :
    Calls Tryd.prog 4 #[.int .i64 a, .int .i64 b, .int .i64 c] w fun e w' => e = .returned (.bool true) ∧ Below w.heap.size w w' := by
  have H := (Held.start w).add (f := factsF) hL
  clear hL
  have D1 : Hid (decide (1 ≤ a ∧ a ≤ 3652059) = true) := Lib.hid (by rw [decide_eq_true_eq]; exact h1)
  have D2 : Hid (decide (1 ≤ b ∧ b ≤ 3652059) = true) := Lib.hid (by rw [decide_eq_true_eq]; exact h2)
  have D3 : Hid (decide (1 ≤ c ∧ c ≤ 3652059) = true) := Lib.hid (by rw [decide_eq_true_eq]; exact h3)
  clear h1 h2 h3
  have W0 := Lib.hid w0
  clear w0
  have W1 := Lib.hid w1
  clear w1
  have W2 := Lib.hid w2
  clear w2
  have W3 := Lib.hid w3
  clear w3
  have W4 := Lib.hid w4
  clear w4
  have W5 := Lib.hid w5
  clear w5
  have W6 := Lib.hid w6
  clear w6
  have W7 := Lib.hid w7
  clear w7
  have W8 := Lib.hid w8
  clear w8
  have X0 := Lib.hid (fun v => refadd8_is p0 q0 p1 q1 p2 q2 0 v r0 r1 s0)
  clear r0 r1 s0
  have X3 := Lib.hid (fun v => refadd8_is p3 q3 p4 q4 p5 q5 0 v r3 r4 s3)
  clear r3 r4 s3
  have X6 := Lib.hid (fun v => refadd8_is p6 q6 p7 q7 p8 q8 0 v r6 r7 s6)
  clear r6 r7 s6
  go_enter Tryd.func4, Tryd.ntmps4
  go_wp2_with fail
  (with_reducible refine (ashown_any K _ (H.facts (List.Mem.head _))).mono ?_)
  rintro e w1 ⟨rfl, hb⟩
  replace H := H.below hb
  clear hb
  go_wp2_with fail
  (with_reducible refine (rday_is a true _ D1.out).mono ?_)
  rintro e w2 ⟨rfl, hb⟩
  replace H := H.below hb
  clear hb
  go_wp2_with fail
  (with_reducible refine (rday_is b true _ D2.out).mono ?_)
  rintro e w3 ⟨rfl, hb⟩
  replace H := H.below hb
  clear hb
  go_wp2_with fail
  (with_reducible refine (rday_is c true _ D3.out).mono ?_)
  rintro e w4 ⟨rfl, hb⟩
  replace H := H.below hb
  clear hb
  go_wp2_with fail
  (with_reducible refine (K.by360 a b p0 q0 0 _ (H.facts (List.Mem.head _)) W0.out).mono ?_)
  rintro e w5 ⟨rfl, hb⟩
  replace H := H.below hb
  clear hb
  go_wp2_with fail
  replace H := (H.pair (w5.heap.size) (.int .i64 p0) (.int .i64 q0) 24 rfl)
  (with_reducible refine (K.by360 b c p1 q1 0 _ (H.facts (List.Mem.tail _ (List.Mem.tail _ (List.Mem.tail _ (List.Mem.tail _ (List.Mem.head _)))))) W1.out).mono ?_)
  rintro e w6 ⟨rfl, hb⟩
  replace H := H.below hb
  clear hb
  go_wp2_with fail
  replace H := (H.pair (w6.heap.size) (.int .i64 p1) (.int .i64 q1) 24 rfl)
  (with_reducible refine (K.by360 a c p2 q2 0 _ (H.facts (List.Mem.tail _ (List.Mem.tail _ (List.Mem.tail _ (List.Mem.tail _ (List.Mem.tail _ (List.Mem.tail _ (List.Mem.tail _ (List.Mem.tail _ (List.Mem.head _)))))))))) W2.out).mono ?_)
  rintro e w7 ⟨rfl, hb⟩
  replace H := H.below hb
  clear hb
  go_wp2_with fail
  replace H := (H.pair (w7.heap.size) (.int .i64 p2) (.int .i64 q2) 24 rfl)
  (with_reducible refine (K.by365 a b p3 q3 0 _ (H.facts (List.Mem.tail _ (List.Mem.tail _ (List.Mem.tail _ (List.Mem.tail _ (List.Mem.tail _ (List.Mem.tail _ (List.Mem.tail _ (List.Mem.tail _ (List.Mem.tail _ (List.Mem.tail _ (List.Mem.tail _ (List.Mem.tail _ (List.Mem.head _)))))))))))))) W3.out).mono ?_)
  rintro e w8 ⟨rfl, hb⟩
  replace H := H.below hb
  clear hb
  go_wp2_with fail
  replace H := (H.pair (w8.heap.size) (.int .i64 p3) (.int .i64 q3) 24 rfl)
  (with_reducible refine (K.by365 b c p4 q4 0 _ (H.facts (List.Mem.tail _ (List.Mem.tail _ (List.Mem.tail _ (List.Mem.tail _ (List.Mem.tail _ (List.Mem.tail _ (List.Mem.tail _ (List.Mem.tail _ (List.Mem.tail _ (List.Mem.tail _ (List.Mem.tail _ (List.Mem.tail _ (List.Mem.tail _ (List.Mem.tail _ (List.Mem.tail _ (List.Mem.tail _ (List.Mem.head _)))))))))))))))))) W4.out).mono ?_)
  rintro e w9 ⟨rfl, hb⟩
  replace H := H.below hb
  clear hb
  go_wp2_with fail
  replace H := (H.pair (w9.heap.size) (.int .i64 p4) (.int .i64 q4) 24 rfl)
  (with_reducible refine (K.by365 a c p5 q5 0 _ (H.facts (List.Mem.tail _ (List.Mem.tail _ (List.Mem.tail _ (List.Mem.tail _ (List.Mem.tail _ (List.Mem.tail _ (List.Mem.tail _ (List.Mem.tail _ (List.Mem.tail _ (List.Mem.tail _ (List.Mem.tail _ (List.Mem.tail _ (List.Mem.tail _ (List.Mem.tail _ (List.Mem.tail _ (List.Mem.tail _ (List.Mem.tail _ (List.Mem.tail _ (List.Mem.tail _ (List.Mem.tail _ (List.Mem.head _)))))))))))))))))))))) W5.out).mono ?_)
  rintro e w10 ⟨rfl, hb⟩
  replace H := H.below hb
  clear hb
  go_wp2_with fail
  replace H := (H.pair (w10.heap.size) (.int .i64 p5) (.int .i64 q5) 24 rfl)
  (with_reducible refine (K.byyears a b p6 q6 0 _ (H.facts (List.Mem.tail _ (List.Mem.tail _ (List.Mem.tail _ (List.Mem.tail _ (List.Mem.tail _ (List.Mem.tail _ (List.Mem.tail _ (List.Mem.tail _ (List.Mem.tail _ (List.Mem.tail _ (List.Mem.tail _ (List.Mem.tail _ (List.Mem.tail _ (List.Mem.tail _ (List.Mem.tail _ (List.Mem.tail _ (List.Mem.tail _ (List.Mem.tail _ (List.Mem.tail _ (List.Mem.tail _ (List.Mem.tail _ (List.Mem.tail _ (List.Mem.tail _ (List.Mem.tail _ (List.Mem.head _)))))))))))))))))))))))))) W6.out).mono ?_)
  rintro e w11 ⟨rfl, hb⟩
  replace H := H.below hb
  clear hb
  go_wp2_with fail
  replace H := (H.pair (w11.heap.size) (.int .i64 p6) (.int .i64 q6) 24 rfl)
  (with_reducible refine (K.byyears b c p7 q7 0 _ (H.facts (List.Mem.tail _ (List.Mem.tail _ (List.Mem.tail _ (List.Mem.tail _ (List.Mem.tail _ (List.Mem.tail _ (List.Mem.tail _ (List.Mem.tail _ (List.Mem.tail _ (List.Mem.tail _ (List.Mem.tail _ (List.Mem.tail _ (List.Mem.tail _ (List.Mem.tail _ (List.Mem.tail _ (List.Mem.tail _ (List.Mem.tail _ (List.Mem.tail _ (List.Mem.tail _ (List.Mem.tail _ (List.Mem.tail _ (List.Mem.tail _ (List.Mem.tail _ (List.Mem.tail _ (List.Mem.tail _ (List.Mem.tail _ (List.Mem.tail _ (List.Mem.tail _ (List.Mem.head _)))))))))))))))))))))))))))))) W7.out).mono ?_)
  rintro e w12 ⟨rfl, hb⟩
  replace H := H.below hb
  clear hb
  go_wp2_with fail
  replace H := (H.pair (w12.heap.size) (.int .i64 p7) (.int .i64 q7) 24 rfl)
  (with_reducible refine (K.byyears a c p8 q8 0 _ (H.facts (List.Mem.tail _ (List.Mem.tail _ (List.Mem.tail _ (List.Mem.tail _ (List.Mem.tail _ (List.Mem.tail _ (List.Mem.tail _ (List.Mem.tail _ (List.Mem.tail _ (List.Mem.tail _ (List.Mem.tail _ (List.Mem.tail _ (List.Mem.tail _ (List.Mem.tail _ (List.Mem.tail _ (List.Mem.tail _ (List.Mem.tail _ (List.Mem.tail _ (List.Mem.tail _ (List.Mem.tail _ (List.Mem.tail _ (List.Mem.tail _ (List.Mem.tail _ (List.Mem.tail _ (List.Mem.tail _ (List.Mem.tail _ (List.Mem.tail _ (List.Mem.tail _ (List.Mem.tail _ (List.Mem.tail _ (List.Mem.tail _ (List.Mem.tail _ (List.Mem.head _)))))))))))))))))))))))))))))))))) W8.out).mono ?_)
  rintro e w13 ⟨rfl, hb⟩
  replace H := H.below hb
  clear hb
  have cv00 := H.cell (w5.heap.size) 0 (.int .i64 p0) (List.Mem.tail _ (List.Mem.tail _ (List.Mem.tail _ (List.Mem.tail _ (List.Mem.tail _ (List.Mem.tail _ (List.Mem.tail _ (List.Mem.tail _ (List.Mem.tail _ (List.Mem.tail _ (List.Mem.tail _ (List.Mem.tail _ (List.Mem.tail _ (List.Mem.tail _ (List.Mem.tail _ (List.Mem.tail _ (List.Mem.tail _ (List.Mem.tail _ (List.Mem.tail _ (List.Mem.tail _ (List.Mem.tail _ (List.Mem.tail _ (List.Mem.tail _ (List.Mem.tail _ (List.Mem.tail _ (List.Mem.tail _ (List.Mem.tail _ (List.Mem.tail _ (List.Mem.head _)))))))))))))))))))))))))))))
  have cv01 := H.cell (w5.heap.size) 1 (.int .i64 q0) (List.Mem.tail _ (List.Mem.tail _ (List.Mem.tail _ (List.Mem.tail _ (List.Mem.tail _ (List.Mem.tail _ (List.Mem.tail _ (List.Mem.tail _ (List.Mem.tail _ (List.Mem.tail _ (List.Mem.tail _ (List.Mem.tail _ (List.Mem.tail _ (List.Mem.tail _ (List.Mem.tail _ (List.Mem.tail _ (List.Mem.tail _ (List.Mem.tail _ (List.Mem.tail _ (List.Mem.tail _ (List.Mem.tail _ (List.Mem.tail _ (List.Mem.tail _ (List.Mem.tail _ (List.Mem.tail _ (List.Mem.tail _ (List.Mem.tail _ (List.Mem.tail _ (List.Mem.tail _ (List.Mem.head _))))))))))))))))))))))))))))))
  have lv0 := H.lt (w5.heap.size) 0 (.int .i64 p0) (List.Mem.tail _ (List.Mem.tail _ (List.Mem.tail _ (List.Mem.tail _ (List.Mem.tail _ (List.Mem.tail _ (List.Mem.tail _ (List.Mem.tail _ (List.Mem.tail _ (List.Mem.tail _ (List.Mem.tail _ (List.Mem.tail _ (List.Mem.tail _ (List.Mem.tail _ (List.Mem.tail _ (List.Mem.tail _ (List.Mem.tail _ (List.Mem.tail _ (List.Mem.tail _ (List.Mem.tail _ (List.Mem.tail _ (List.Mem.tail _ (List.Mem.tail _ (List.Mem.tail _ (List.Mem.tail _ (List.Mem.tail _ (List.Mem.tail _ (List.Mem.tail _ (List.Mem.head _)))))))))))))))))))))))))))))
  have cv10 := H.cell (w6.heap.size) 0 (.int .i64 p1) (List.Mem.tail _ (List.Mem.tail _ (List.Mem.tail _ (List.Mem.tail _ (List.Mem.tail _ (List.Mem.tail _ (List.Mem.tail _ (List.Mem.tail _ (List.Mem.tail _ (List.Mem.tail _ (List.Mem.tail _ (List.Mem.tail _ (List.Mem.tail _ (List.Mem.tail _ (List.Mem.tail _ (List.Mem.tail _ (List.Mem.tail _ (List.Mem.tail _ (List.Mem.tail _ (List.Mem.tail _ (List.Mem.tail _ (List.Mem.tail _ (List.Mem.tail _ (List.Mem.tail _ (List.Mem.head _)))))))))))))))))))))))))
  have cv11 := H.cell (w6.heap.size) 1 (.int .i64 q1) (List.Mem.tail _ (List.Mem.tail _ (List.Mem.tail _ (List.Mem.tail _ (List.Mem.tail _ (List.Mem.tail _ (List.Mem.tail _ (List.Mem.tail _ (List.Mem.tail _ (List.Mem.tail _ (List.Mem.tail _ (List.Mem.tail _ (List.Mem.tail _ (List.Mem.tail _ (List.Mem.tail _ (List.Mem.tail _ (List.Mem.tail _ (List.Mem.tail _ (List.Mem.tail _ (List.Mem.tail _ (List.Mem.tail _ (List.Mem.tail _ (List.Mem.tail _ (List.Mem.tail _ (List.Mem.tail _ (List.Mem.head _))))))))))))))))))))))))))
  have lv1 := H.lt (w6.heap.size) 0 (.int .i64 p1) (List.Mem.tail _ (List.Mem.tail _ (List.Mem.tail _ (List.Mem.tail _ (List.Mem.tail _ (List.Mem.tail _ (List.Mem.tail _ (List.Mem.tail _ (List.Mem.tail _ (List.Mem.tail _ (List.Mem.tail _ (List.Mem.tail _ (List.Mem.tail _ (List.Mem.tail _ (List.Mem.tail _ (List.Mem.tail _ (List.Mem.tail _ (List.Mem.tail _ (List.Mem.tail _ (List.Mem.tail _ (List.Mem.tail _ (List.Mem.tail _ (List.Mem.tail _ (List.Mem.tail _ (List.Mem.head _)))))))))))))))))))))))))
  go_wp2_with fail
  clear cv00 cv01 lv0 cv10 cv11 lv1
  replace H := (H.pair (w13.heap.size) (.int .i64 p8) (.int .i64 q8) 24 rfl)
  (with_reducible refine (X0.out _).mono ?_)
  rintro e w14 ⟨rfl, hb⟩
  replace H := H.below hb
  clear hb
  have cv30 := H.cell (w8.heap.size) 0 (.int .i64 p3) (List.Mem.tail _ (List.Mem.tail _ (List.Mem.tail _ (List.Mem.tail _ (List.Mem.tail _ (List.Mem.tail _ (List.Mem.tail _ (List.Mem.tail _ (List.Mem.tail _ (List.Mem.tail _ (List.Mem.tail _ (List.Mem.tail _ (List.Mem.tail _ (List.Mem.tail _ (List.Mem.tail _ (List.Mem.tail _ (List.Mem.tail _ (List.Mem.tail _ (List.Mem.tail _ (List.Mem.tail _ (List.Mem.head _)))))))))))))))))))))
  have cv31 := H.cell (w8.heap.size) 1 (.int .i64 q3) (List.Mem.tail _ (List.Mem.tail _ (List.Mem.tail _ (List.Mem.tail _ (List.Mem.tail _ (List.Mem.tail _ (List.Mem.tail _ (List.Mem.tail _ (List.Mem.tail _ (List.Mem.tail _ (List.Mem.tail _ (List.Mem.tail _ (List.Mem.tail _ (List.Mem.tail _ (List.Mem.tail _ (List.Mem.tail _ (List.Mem.tail _ (List.Mem.tail _ (List.Mem.tail _ (List.Mem.tail _ (List.Mem.tail _ (List.Mem.head _))))))))))))))))))))))
  have lv3 := H.lt (w8.heap.size) 0 (.int .i64 p3) (List.Mem.tail _ (List.Mem.tail _ (List.Mem.tail _ (List.Mem.tail _ (List.Mem.tail _ (List.Mem.tail _ (List.Mem.tail _ (List.Mem.tail _ (List.Mem.tail _ (List.Mem.tail _ (List.Mem.tail _ (List.Mem.tail _ (List.Mem.tail _ (List.Mem.tail _ (List.Mem.tail _ (List.Mem.tail _ (List.Mem.tail _ (List.Mem.tail _ (List.Mem.tail _ (List.Mem.tail _ (List.Mem.head _)))))))))))))))))))))
  have cv40 := H.cell (w9.heap.size) 0 (.int .i64 p4) (List.Mem.tail _ (List.Mem.tail _ (List.Mem.tail _ (List.Mem.tail _ (List.Mem.tail _ (List.Mem.tail _ (List.Mem.tail _ (List.Mem.tail _ (List.Mem.tail _ (List.Mem.tail _ (List.Mem.tail _ (List.Mem.tail _ (List.Mem.tail _ (List.Mem.tail _ (List.Mem.tail _ (List.Mem.tail _ (List.Mem.head _)))))))))))))))))
  have cv41 := H.cell (w9.heap.size) 1 (.int .i64 q4) (List.Mem.tail _ (List.Mem.tail _ (List.Mem.tail _ (List.Mem.tail _ (List.Mem.tail _ (List.Mem.tail _ (List.Mem.tail _ (List.Mem.tail _ (List.Mem.tail _ (List.Mem.tail _ (List.Mem.tail _ (List.Mem.tail _ (List.Mem.tail _ (List.Mem.tail _ (List.Mem.tail _ (List.Mem.tail _ (List.Mem.tail _ (List.Mem.head _))))))))))))))))))
  have lv4 := H.lt (w9.heap.size) 0 (.int .i64 p4) (List.Mem.tail _ (List.Mem.tail _ (List.Mem.tail _ (List.Mem.tail _ (List.Mem.tail _ (List.Mem.tail _ (List.Mem.tail _ (List.Mem.tail _ (List.Mem.tail _ (List.Mem.tail _ (List.Mem.tail _ (List.Mem.tail _ (List.Mem.tail _ (List.Mem.tail _ (List.Mem.tail _ (List.Mem.tail _ (List.Mem.head _)))))))))))))))))
  go_wp2_with fail
  clear cv30 cv31 lv3 cv40 cv41 lv4
  replace H := (H.pair (w14.heap.size) (.int .i64 p2) (.int .i64 q2) 24 rfl)
  (with_reducible refine (X3.out _).mono ?_)
  rintro e w15 ⟨rfl, hb⟩
  replace H := H.below hb
  clear hb
  have cv60 := H.cell (w11.heap.size) 0 (.int .i64 p6) (List.Mem.tail _ (List.Mem.tail _ (List.Mem.tail _ (List.Mem.tail _ (List.Mem.tail _ (List.Mem.tail _ (List.Mem.tail _ (List.Mem.tail _ (List.Mem.tail _ (List.Mem.tail _ (List.Mem.tail _ (List.Mem.tail _ (List.Mem.head _)))))))))))))
  have cv61 := H.cell (w11.heap.size) 1 (.int .i64 q6) (List.Mem.tail _ (List.Mem.tail _ (List.Mem.tail _ (List.Mem.tail _ (List.Mem.tail _ (List.Mem.tail _ (List.Mem.tail _ (List.Mem.tail _ (List.Mem.tail _ (List.Mem.tail _ (List.Mem.tail _ (List.Mem.tail _ (List.Mem.tail _ (List.Mem.head _))))))))))))))
  have lv6 := H.lt (w11.heap.size) 0 (.int .i64 p6) (List.Mem.tail _ (List.Mem.tail _ (List.Mem.tail _ (List.Mem.tail _ (List.Mem.tail _ (List.Mem.tail _ (List.Mem.tail _ (List.Mem.tail _ (List.Mem.tail _ (List.Mem.tail _ (List.Mem.tail _ (List.Mem.tail _ (List.Mem.head _)))))))))))))
  have cv70 := H.cell (w12.heap.size) 0 (.int .i64 p7) (List.Mem.tail _ (List.Mem.tail _ (List.Mem.tail _ (List.Mem.tail _ (List.Mem.tail _ (List.Mem.tail _ (List.Mem.tail _ (List.Mem.tail _ (List.Mem.head _)))))))))
  have cv71 := H.cell (w12.heap.size) 1 (.int .i64 q7) (List.Mem.tail _ (List.Mem.tail _ (List.Mem.tail _ (List.Mem.tail _ (List.Mem.tail _ (List.Mem.tail _ (List.Mem.tail _ (List.Mem.tail _ (List.Mem.tail _ (List.Mem.head _))))))))))
  have lv7 := H.lt (w12.heap.size) 0 (.int .i64 p7) (List.Mem.tail _ (List.Mem.tail _ (List.Mem.tail _ (List.Mem.tail _ (List.Mem.tail _ (List.Mem.tail _ (List.Mem.tail _ (List.Mem.tail _ (List.Mem.head _)))))))))
  go_wp2_with fail
  clear cv60 cv61 lv6 cv70 cv71 lv7
  replace H := (H.pair (w15.heap.size) (.int .i64 p5) (.int .i64 q5) 24 rfl)
  (with_reducible refine (X6.out _).mono ?_)
  rintro e w16 ⟨rfl, hb⟩
  replace H := H.below hb
  clear hb
  have cv20 := H.cell (w7.heap.size) 0 (.int .i64 p2) (List.Mem.tail _ (List.Mem.tail _ (List.Mem.tail _ (List.Mem.tail _ (List.Mem.tail _ (List.Mem.tail _ (List.Mem.tail _ (List.Mem.tail _ (List.Mem.tail _ (List.Mem.tail _ (List.Mem.tail _ (List.Mem.tail _ (List.Mem.tail _ (List.Mem.tail _ (List.Mem.tail _ (List.Mem.tail _ (List.Mem.tail _ (List.Mem.tail _ (List.Mem.tail _ (List.Mem.tail _ (List.Mem.tail _ (List.Mem.tail _ (List.Mem.tail _ (List.Mem.tail _ (List.Mem.tail _ (List.Mem.tail _ (List.Mem.tail _ (List.Mem.tail _ (List.Mem.tail _ (List.Mem.tail _ (List.Mem.tail _ (List.Mem.tail _ (List.Mem.head _)))))))))))))))))))))))))))))))))
  have cv21 := H.cell (w7.heap.size) 1 (.int .i64 q2) (List.Mem.tail _ (List.Mem.tail _ (List.Mem.tail _ (List.Mem.tail _ (List.Mem.tail _ (List.Mem.tail _ (List.Mem.tail _ (List.Mem.tail _ (List.Mem.tail _ (List.Mem.tail _ (List.Mem.tail _ (List.Mem.tail _ (List.Mem.tail _ (List.Mem.tail _ (List.Mem.tail _ (List.Mem.tail _ (List.Mem.tail _ (List.Mem.tail _ (List.Mem.tail _ (List.Mem.tail _ (List.Mem.tail _ (List.Mem.tail _ (List.Mem.tail _ (List.Mem.tail _ (List.Mem.tail _ (List.Mem.tail _ (List.Mem.tail _ (List.Mem.tail _ (List.Mem.tail _ (List.Mem.tail _ (List.Mem.tail _ (List.Mem.tail _ (List.Mem.tail _ (List.Mem.head _))))))))))))))))))))))))))))))))))
  have lv2 := H.lt (w7.heap.size) 0 (.int .i64 p2) (List.Mem.tail _ (List.Mem.tail _ (List.Mem.tail _ (List.Mem.tail _ (List.Mem.tail _ (List.Mem.tail _ (List.Mem.tail _ (List.Mem.tail _ (List.Mem.tail _ (List.Mem.tail _ (List.Mem.tail _ (List.Mem.tail _ (List.Mem.tail _ (List.Mem.tail _ (List.Mem.tail _ (List.Mem.tail _ (List.Mem.tail _ (List.Mem.tail _ (List.Mem.tail _ (List.Mem.tail _ (List.Mem.tail _ (List.Mem.tail _ (List.Mem.tail _ (List.Mem.tail _ (List.Mem.tail _ (List.Mem.tail _ (List.Mem.tail _ (List.Mem.tail _ (List.Mem.tail _ (List.Mem.tail _ (List.Mem.tail _ (List.Mem.tail _ (List.Mem.head _)))))))))))))))))))))))))))))))))
  have cv50 := H.cell (w10.heap.size) 0 (.int .i64 p5) (List.Mem.tail _ (List.Mem.tail _ (List.Mem.tail _ (List.Mem.tail _ (List.Mem.tail _ (List.Mem.tail _ (List.Mem.tail _ (List.Mem.tail _ (List.Mem.tail _ (List.Mem.tail _ (List.Mem.tail _ (List.Mem.tail _ (List.Mem.tail _ (List.Mem.tail _ (List.Mem.tail _ (List.Mem.tail _ (List.Mem.tail _ (List.Mem.tail _ (List.Mem.tail _ (List.Mem.tail _ (List.Mem.head _)))))))))))))))))))))
  have cv51 := H.cell (w10.heap.size) 1 (.int .i64 q5) (List.Mem.tail _ (List.Mem.tail _ (List.Mem.tail _ (List.Mem.tail _ (List.Mem.tail _ (List.Mem.tail _ (List.Mem.tail _ (List.Mem.tail _ (List.Mem.tail _ (List.Mem.tail _ (List.Mem.tail _ (List.Mem.tail _ (List.Mem.tail _ (List.Mem.tail _ (List.Mem.tail _ (List.Mem.tail _ (List.Mem.tail _ (List.Mem.tail _ (List.Mem.tail _ (List.Mem.tail _ (List.Mem.tail _ (List.Mem.head _))))))))))))))))))))))
  have lv5 := H.lt (w10.heap.size) 0 (.int .i64 p5) (List.Mem.tail _ (List.Mem.tail _ (List.Mem.tail _ (List.Mem.tail _ (List.Mem.tail _ (List.Mem.tail _ (List.Mem.tail _ (List.Mem.tail _ (List.Mem.tail _ (List.Mem.tail _ (List.Mem.tail _ (List.Mem.tail _ (List.Mem.tail _ (List.Mem.tail _ (List.Mem.tail _ (List.Mem.tail _ (List.Mem.tail _ (List.Mem.tail _ (List.Mem.tail _ (List.Mem.tail _ (List.Mem.head _)))))))))))))))))))))
  have cv80 := H.cell (w13.heap.size) 0 (.int .i64 p8) (List.Mem.tail _ (List.Mem.tail _ (List.Mem.tail _ (List.Mem.tail _ (List.Mem.tail _ (List.Mem.tail _ (List.Mem.tail _ (List.Mem.tail _ (List.Mem.head _)))))))))
  have cv81 := H.cell (w13.heap.size) 1 (.int .i64 q8) (List.Mem.tail _ (List.Mem.tail _ (List.Mem.tail _ (List.Mem.tail _ (List.Mem.tail _ (List.Mem.tail _ (List.Mem.tail _ (List.Mem.tail _ (List.Mem.tail _ (List.Mem.head _))))))))))
  have lv8 := H.lt (w13.heap.size) 0 (.int .i64 p8) (List.Mem.tail _ (List.Mem.tail _ (List.Mem.tail _ (List.Mem.tail _ (List.Mem.tail _ (List.Mem.tail _ (List.Mem.tail _ (List.Mem.tail _ (List.Mem.head _)))))))))
  have cs00 := H.cell (w14.heap.size) 0 (.int .i64 p2) (List.Mem.tail _ (List.Mem.tail _ (List.Mem.tail _ (List.Mem.tail _ (List.Mem.head _)))))
  have cs01 := H.cell (w14.heap.size) 1 (.int .i64 q2) (List.Mem.tail _ (List.Mem.tail _ (List.Mem.tail _ (List.Mem.tail _ (List.Mem.tail _ (List.Mem.head _))))))
  have ls0 := H.lt (w14.heap.size) 0 (.int .i64 p2) (List.Mem.tail _ (List.Mem.tail _ (List.Mem.tail _ (List.Mem.tail _ (List.Mem.head _)))))
  have cs30 := H.cell (w15.heap.size) 0 (.int .i64 p5) (List.Mem.head _)
  have cs31 := H.cell (w15.heap.size) 1 (.int .i64 q5) (List.Mem.tail _ (List.Mem.head _))
  have ls3 := H.lt (w15.heap.size) 0 (.int .i64 p5) (List.Mem.head _)
  go_wp2_with fail
  clear cv20 cv21 lv2 cv50 cv51 lv5 cv80 cv81 lv8 cs00 cs01 ls0 cs30 cs31 ls3
  replace H := (H.pair (w16.heap.size) (.int .i64 p8) (.int .i64 q8) 24 rfl)
  go_ret
  exact ⟨rfl, H.old⟩

theorem aadds_walk (K : Ways) (a b c : Int) (w : World) (hL : Facts w) (ha : -9223372036854775808 ≤ a ∧ a < 9223372036854775808) (hb : -9223372036854775808 ≤ b ∧ b < 9223372036854775808) (hc : -9223372036854775808 ≤ c ∧ c < 9223372036854775808) :
    Calls Tryd.prog 4 #[.int .i64 a, .int .i64 b, .int .i64 c] w fun e w' => e = .returned (.bool true) ∧ Below w.heap.size w w' := by
  by_cases h1 : a < 1 ∨ 3652059 < a
  · exact aadds_a K a b c w hL h1
  by_cases h2 : b < 1 ∨ 3652059 < b
  · exact aadds_b K a b c w hL (by omega) h2
  by_cases h3 : c < 1 ∨ 3652059 < c
  · exact aadds_c K a b c w hL (by omega) (by omega) h3
  have R1 : 1 ≤ a ∧ a ≤ 3652059 := by omega
  have R2 : 1 ≤ b ∧ b ≤ 3652059 := by omega
  have R3 : 1 ≤ c ∧ c ≤ 3652059 := by omega
  by_cases h4 : a > b
  · exact aadds_ab K a b c w hL R1 R2 R3 h4
  by_cases h5 : b > c
  · exact aadds_bc K a b c w hL R1 R2 R3 h4 h5
  obtain ⟨y1, m1, d1, a1, a2⟩ := day_of a R1.1 R1.2
  obtain ⟨y2, m2, d2, b1, b2⟩ := day_of b R2.1 R2.2
  obtain ⟨y3, m3, d3, c1, c2⟩ := day_of c R3.1 R3.2
  have e1 := yX_bd _ _ _ _ _ _ a1 b1 (by omega)
  have e2 := yX_bd _ _ _ _ _ _ b1 c1 (by omega)
  have e3 := yX_add y1 m1 d1 y2 m2 d2 y3 m3 d3
  obtain ⟨x, hx⟩ : ∃ x, yX y1 m1 d1 y2 m2 d2 = x := ⟨_, rfl⟩
  obtain ⟨y, hy⟩ : ∃ y, yX y2 m2 d2 y3 m3 d3 = y := ⟨_, rfl⟩
  rw [hx, hy] at e3
  rw [hx, a2, b2] at e1
  rw [hy, b2, c2] at e2
  have s : ∀ k : Int, 0 < k → k ≤ 200000 → _ := fun k k0 k1 => ac_add (b - a) (c - b) k (by omega) (by omega) (by omega) k0 k1
  have s1 := s 360 (by decide) (by decide)
  have s2 := s 365 (by decide) (by decide)
  have s3 := ac_add x y 133590 (by omega) (by omega) (by omega) (by decide) (by decide)
  rw [show b - a + (c - b) = c - a by omega] at s1 s2
  exact aadds_in K a b c _ _ _ _ _ _ _ _ _ _ _ _ _ _ _ _ _ _ w hL R1 R2 R3 h4 h5
    (ac_days a b 360 R1 R2 (by omega)) (ac_days b c 360 R2 R3 (by omega)) (ac_days a c 360 R1 R3 (by omega))
    (ac_days a b 365 R1 R2 (by omega)) (ac_days b c 365 R2 R3 (by omega)) (ac_days a c 365 R1 R3 (by omega))
    (ac_years y1 m1 d1 y2 m2 d2 x a1 a2 b1 b2 (by omega) hx) (ac_years y2 m2 d2 y3 m3 d3 y b1 b2 c1 c2 (by omega) hy) (ac_years y1 m1 d1 y3 m3 d3 (x + y) a1 a2 c1 c2 (by omega) e3.symm)
    (ac_right _ _ (by omega) (by omega) (by decide) (by decide)) (ac_right _ _ (by omega) (by omega) (by decide) (by decide)) s1
    (ac_right _ _ (by omega) (by omega) (by decide) (by decide)) (ac_right _ _ (by omega) (by omega) (by decide) (by decide)) s2
    (ac_right _ _ (by omega) (by omega) (by decide) (by decide)) (ac_right _ _ (by omega) (by omega) (by decide) (by decide)) s3
end Go.Proofs.YtobdimekjhdefaaDoor
