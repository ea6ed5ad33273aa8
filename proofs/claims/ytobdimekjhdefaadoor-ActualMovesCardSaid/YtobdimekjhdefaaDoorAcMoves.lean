/- ActualMoves: the walk. -/
import Derived.Test.YtobdimekjhdefaaDoorAcShown
namespace Go.Proofs.YtobdimekjhdefaaDoor
open Go.RowKit
set_option linter.unusedVariables false
set_option linter.unusedSimpArgs false

set_option maxHeartbeats 4000000 in
set_option maxRecDepth 100000 in
theorem amoves_a (K : Ways) (a b : Int) (w : World) (hL : Facts w) (h : a < 1 ∨ 3652059 < a) :
    Calls Tryd.prog 7 #[.int .i64 a, .int .i64 b] w fun e w' => e = .returned (.bool true) ∧ Below w.heap.size w w' := by
  have H := (Held.start w).add (f := factsF) hL
  clear hL
  have D1 : Hid (decide (1 ≤ a ∧ a ≤ 3652059) = false) := Lib.hid (by rw [decide_eq_false_iff_not]; omega)
  clear h
  go_enter Tryd.func7, Tryd.ntmps7
  go_wp2_with fail
  (with_reducible refine (ashown_any K _ (H.facts (List.Mem.head _))).mono ?_)
  rintro e w1 ⟨rfl, hb⟩
  replace H := H.below hb
  clear hb
  go_wp2_with fail
  (with_reducible refine (rday_is a false _ D1.out).mono ?_)
  rintro e w2 ⟨rfl, hb⟩
  replace H := H.below hb
  clear hb
  go_wp2_with fail
  go_ret
  exact ⟨rfl, H.old⟩

set_option maxHeartbeats 4000000 in
set_option maxRecDepth 100000 in
theorem amoves_b (K : Ways) (a b : Int) (w : World) (hL : Facts w) (h1 : 1 ≤ a ∧ a ≤ 3652059) (h : b < 1 ∨ 3652059 < b) :
    Calls Tryd.prog 7 #[.int .i64 a, .int .i64 b] w fun e w' => e = .returned (.bool true) ∧ Below w.heap.size w w' := by
  have H := (Held.start w).add (f := factsF) hL
  clear hL
  have D1 : Hid (decide (1 ≤ a ∧ a ≤ 3652059) = true) := Lib.hid (by rw [decide_eq_true_eq]; exact h1)
  have D2 : Hid (decide (1 ≤ b ∧ b ≤ 3652059) = false) := Lib.hid (by rw [decide_eq_false_iff_not]; omega)
  clear h
  go_enter Tryd.func7, Tryd.ntmps7
  go_wp2_with fail
  (with_reducible refine (ashown_any K _ (H.facts (List.Mem.head _))).mono ?_)
  rintro e w1 ⟨rfl, hb⟩
  replace H := H.below hb
  clear hb
  go_wp2_with fail
  (with_reducible refine (rday_is a true _ D1.out).mono ?_)
  rintro e w2 ⟨rfl, hb⟩
  replace H := H.below hb
  clear hb
  go_wp2_with fail
  (with_reducible refine (rday_is b false _ D2.out).mono ?_)
  rintro e w3 ⟨rfl, hb⟩
  replace H := H.below hb
  clear hb
  go_wp2_with fail
  go_ret
  exact ⟨rfl, H.old⟩

set_option maxHeartbeats 4000000 in
set_option maxRecDepth 100000 in
theorem amoves_gt (K : Ways) (a b : Int) (w : World) (hL : Facts w) (h1 : 1 ≤ a ∧ a ≤ 3652059) (h2 : 1 ≤ b ∧ b ≤ 3652059) (h : a > b) :
    Calls Tryd.prog 7 #[.int .i64 a, .int .i64 b] w fun e w' => e = .returned (.bool true) ∧ Below w.heap.size w w' := by
  have H := (Held.start w).add (f := factsF) hL
  clear hL
  have D1 : Hid (decide (1 ≤ a ∧ a ≤ 3652059) = true) := Lib.hid (by rw [decide_eq_true_eq]; exact h1)
  have D2 : Hid (decide (1 ≤ b ∧ b ≤ 3652059) = true) := Lib.hid (by rw [decide_eq_true_eq]; exact h2)
  go_enter Tryd.func7, Tryd.ntmps7
  go_wp2_with fail
  (with_reducible refine (ashown_any K _ (H.facts (List.Mem.head _))).mono ?_)
  rintro e w1 ⟨rfl, hb⟩
  replace H := H.below hb
  clear hb
  go_wp2_with fail
  (with_reducible refine (rday_is a true _ D1.out).mono ?_)
  rintro e w2 ⟨rfl, hb⟩
  replace H := H.below hb
  clear hb
  go_wp2_with fail
  (with_reducible refine (rday_is b true _ D2.out).mono ?_)
  rintro e w3 ⟨rfl, hb⟩
  replace H := H.below hb
  clear hb
  go_wp2_with fail
  go_ret
  exact ⟨rfl, H.old⟩

set_option maxHeartbeats 4000000 in
set_option maxRecDepth 100000 in
theorem amoves_far (K : Ways) (a b : Int) (w : World) (hL : Facts w) (h1 : 1 ≤ a ∧ a ≤ 3652059) (h2 : 1 ≤ b ∧ b ≤ 3652059) (g : ¬ a > b) (h : b + 146097 > 3652059) :
    Calls Tryd.prog 7 #[.int .i64 a, .int .i64 b] w fun e w' => e = .returned (.bool true) ∧ Below w.heap.size w w' := by
  have H := (Held.start w).add (f := factsF) hL
  clear hL
  have D1 : Hid (decide (1 ≤ a ∧ a ≤ 3652059) = true) := Lib.hid (by rw [decide_eq_true_eq]; exact h1)
  have D2 : Hid (decide (1 ≤ b ∧ b ≤ 3652059) = true) := Lib.hid (by rw [decide_eq_true_eq]; exact h2)
  go_enter Tryd.func7, Tryd.ntmps7
  go_wp2_with fail
  (with_reducible refine (ashown_any K _ (H.facts (List.Mem.head _))).mono ?_)
  rintro e w1 ⟨rfl, hb⟩
  replace H := H.below hb
  clear hb
  go_wp2_with fail
  (with_reducible refine (rday_is a true _ D1.out).mono ?_)
  rintro e w2 ⟨rfl, hb⟩
  replace H := H.below hb
  clear hb
  go_wp2_with fail
  (with_reducible refine (rday_is b true _ D2.out).mono ?_)
  rintro e w3 ⟨rfl, hb⟩
  replace H := H.below hb
  clear hb
  go_wp2_with fail
  go_ret
  exact ⟨rfl, H.old⟩

set_option maxHeartbeats 4000000 in
set_option maxRecDepth 100000 in
theorem amoves_true (K : Ways) (a b y m d p0 q0 p1 q1 p2 q2 p3 q3 p4 q4 : Int) (w : World) (hL : Facts w) (h1 : 1 ≤ a ∧ a ≤ 3652059) (h2 : 1 ≤ b ∧ b ≤ 3652059) (g : ¬ a > b) (h : ¬ b + 146097 > 3652059) (hy : DayIs b y m d 0) (hl : lp y = true) (w0 : AcIs aX 360 a b p0 q0 0) (w1 : AcIs aX 365 a b p1 q1 0) (w2 : AcIs yX 133590 a b p2 q2 0) (w3 : AcIs aX 360 (a + 146097) (b + 146097) p0 q0 0) (w4 : AcIs aX 365 (a + 146097) (b + 146097) p1 q1 0) (w5 : AcIs yX 133590 (a + 146097) (b + 146097) p2 q2 0) (w6 : AcIs yX 133590 a (b + 1) p3 q3 0) (w7 : AcIs aX 360 a (b + 1) p4 q4 0) (r0 : rightB p0 q0 = true) (r2 : rightB p2 q2 = true) (s0 : rN (p2 * 366 + 1 * q2) (q2 * 366) = p3 ∧ rD (p2 * 366 + 1 * q2) (q2 * 366) = q3 ∧ rE (p2 * 366 + 1 * q2) (q2 * 366) = 0) (s1 : rN (p0 * 360 + 1 * q0) (q0 * 360) = p4 ∧ rD (p0 * 360 + 1 * q0) (q0 * 360) = q4 ∧ rE (p0 * 360 + 1 * q0) (q0 * 360) = 0) :
    Calls Tryd.prog 7 #[.int .i64 a, .int .i64 b] w fun e w' => e = .returned (.bool true) ∧ Below w.heap.size w w' := by
  have H := (Held.start w).add (f := factsF) hL
  clear hL
  have D1 : Hid (decide (1 ≤ a ∧ a ≤ 3652059) = true) := Lib.hid (by rw [decide_eq_true_eq]; exact h1)
  have D2 : Hid (decide (1 ≤ b ∧ b ≤ 3652059) = true) := Lib.hid (by rw [decide_eq_true_eq]; exact h2)
  have O2 := Lib.hid hy
  have HB := Lib.hid hl
  clear hy hl
  have W0 := Lib.hid w0
  clear w0
  have W1 := Lib.hid w1
  clear w1
  have W2 := Lib.hid w2
  clear w2
  have W3 := Lib.hid w3
  clear w3
  have W4 := Lib.hid w4
  clear w4
  have W5 := Lib.hid w5
  clear w5
  have W6 := Lib.hid w6
  have W7 := Lib.hid w7
  have X0 := Lib.hid (fun v => refadd8_is p2 q2 1 366 p3 q3 0 v r2 (by decide +kernel) s0)
  have X1 := Lib.hid (fun v => refadd8_is p0 q0 1 360 p4 q4 0 v r0 (by decide +kernel) s1)
  clear w6 w7 r0 r2 s0 s1
  go_enter Tryd.func7, Tryd.ntmps7
  go_wp2_with fail
  (with_reducible refine (ashown_any K _ (H.facts (List.Mem.head _))).mono ?_)
  rintro e w1 ⟨rfl, hb⟩
  replace H := H.below hb
  clear hb
  go_wp2_with fail
  (with_reducible refine (rday_is a true _ D1.out).mono ?_)
  rintro e w2 ⟨rfl, hb⟩
  replace H := H.below hb
  clear hb
  go_wp2_with fail
  (with_reducible refine (rday_is b true _ D2.out).mono ?_)
  rintro e w3 ⟨rfl, hb⟩
  replace H := H.below hb
  clear hb
  go_wp2_with fail
  (with_reducible refine (K.by360 a b p0 q0 0 _ (H.facts (List.Mem.head _)) W0.out).mono ?_)
  rintro e w4 ⟨rfl, hb⟩
  replace H := H.below hb
  clear hb
  go_wp2_with fail
  replace H := (H.pair (w4.heap.size) (.int .i64 p0) (.int .i64 q0) 24 rfl)
  (with_reducible refine (K.by365 a b p1 q1 0 _ (H.facts (List.Mem.tail _ (List.Mem.tail _ (List.Mem.tail _ (List.Mem.tail _ (List.Mem.head _)))))) W1.out).mono ?_)
  rintro e w5 ⟨rfl, hb⟩
  replace H := H.below hb
  clear hb
  go_wp2_with fail
  replace H := (H.pair (w5.heap.size) (.int .i64 p1) (.int .i64 q1) 24 rfl)
  (with_reducible refine (K.byyears a b p2 q2 0 _ (H.facts (List.Mem.tail _ (List.Mem.tail _ (List.Mem.tail _ (List.Mem.tail _ (List.Mem.tail _ (List.Mem.tail _ (List.Mem.tail _ (List.Mem.tail _ (List.Mem.head _)))))))))) W2.out).mono ?_)
  rintro e w6 ⟨rfl, hb⟩
  replace H := H.below hb
  clear hb
  go_wp2_with fail
  replace H := (H.pair (w6.heap.size) (.int .i64 p2) (.int .i64 q2) 24 rfl)
  (with_reducible refine (K.by360 (a + 146097) (b + 146097) p0 q0 0 _ (H.facts (List.Mem.tail _ (List.Mem.tail _ (List.Mem.tail _ (List.Mem.tail _ (List.Mem.tail _ (List.Mem.tail _ (List.Mem.tail _ (List.Mem.tail _ (List.Mem.tail _ (List.Mem.tail _ (List.Mem.tail _ (List.Mem.tail _ (List.Mem.head _)))))))))))))) W3.out).mono ?_)
  rintro e w7 ⟨rfl, hb⟩
  replace H := H.below hb
  clear hb
  go_wp2_with fail
  replace H := (H.pair (w7.heap.size) (.int .i64 p0) (.int .i64 q0) 24 rfl)
  (with_reducible refine (K.by365 (a + 146097) (b + 146097) p1 q1 0 _ (H.facts (List.Mem.tail _ (List.Mem.tail _ (List.Mem.tail _ (List.Mem.tail _ (List.Mem.tail _ (List.Mem.tail _ (List.Mem.tail _ (List.Mem.tail _ (List.Mem.tail _ (List.Mem.tail _ (List.Mem.tail _ (List.Mem.tail _ (List.Mem.tail _ (List.Mem.tail _ (List.Mem.tail _ (List.Mem.tail _ (List.Mem.head _)))))))))))))))))) W4.out).mono ?_)
  rintro e w8 ⟨rfl, hb⟩
  replace H := H.below hb
  clear hb
  go_wp2_with fail
  replace H := (H.pair (w8.heap.size) (.int .i64 p1) (.int .i64 q1) 24 rfl)
  (with_reducible refine (K.byyears (a + 146097) (b + 146097) p2 q2 0 _ (H.facts (List.Mem.tail _ (List.Mem.tail _ (List.Mem.tail _ (List.Mem.tail _ (List.Mem.tail _ (List.Mem.tail _ (List.Mem.tail _ (List.Mem.tail _ (List.Mem.tail _ (List.Mem.tail _ (List.Mem.tail _ (List.Mem.tail _ (List.Mem.tail _ (List.Mem.tail _ (List.Mem.tail _ (List.Mem.tail _ (List.Mem.tail _ (List.Mem.tail _ (List.Mem.tail _ (List.Mem.tail _ (List.Mem.head _)))))))))))))))))))))) W5.out).mono ?_)
  rintro e w9 ⟨rfl, hb⟩
  replace H := H.below hb
  clear hb
  have cv00 := H.cell (w4.heap.size) 0 (.int .i64 p0) (List.Mem.tail _ (List.Mem.tail _ (List.Mem.tail _ (List.Mem.tail _ (List.Mem.tail _ (List.Mem.tail _ (List.Mem.tail _ (List.Mem.tail _ (List.Mem.tail _ (List.Mem.tail _ (List.Mem.tail _ (List.Mem.tail _ (List.Mem.tail _ (List.Mem.tail _ (List.Mem.tail _ (List.Mem.tail _ (List.Mem.head _)))))))))))))))))
  have cv01 := H.cell (w4.heap.size) 1 (.int .i64 q0) (List.Mem.tail _ (List.Mem.tail _ (List.Mem.tail _ (List.Mem.tail _ (List.Mem.tail _ (List.Mem.tail _ (List.Mem.tail _ (List.Mem.tail _ (List.Mem.tail _ (List.Mem.tail _ (List.Mem.tail _ (List.Mem.tail _ (List.Mem.tail _ (List.Mem.tail _ (List.Mem.tail _ (List.Mem.tail _ (List.Mem.tail _ (List.Mem.head _))))))))))))))))))
  have lv0 := H.lt (w4.heap.size) 0 (.int .i64 p0) (List.Mem.tail _ (List.Mem.tail _ (List.Mem.tail _ (List.Mem.tail _ (List.Mem.tail _ (List.Mem.tail _ (List.Mem.tail _ (List.Mem.tail _ (List.Mem.tail _ (List.Mem.tail _ (List.Mem.tail _ (List.Mem.tail _ (List.Mem.tail _ (List.Mem.tail _ (List.Mem.tail _ (List.Mem.tail _ (List.Mem.head _)))))))))))))))))
  have cv10 := H.cell (w5.heap.size) 0 (.int .i64 p1) (List.Mem.tail _ (List.Mem.tail _ (List.Mem.tail _ (List.Mem.tail _ (List.Mem.tail _ (List.Mem.tail _ (List.Mem.tail _ (List.Mem.tail _ (List.Mem.tail _ (List.Mem.tail _ (List.Mem.tail _ (List.Mem.tail _ (List.Mem.head _)))))))))))))
  have cv11 := H.cell (w5.heap.size) 1 (.int .i64 q1) (List.Mem.tail _ (List.Mem.tail _ (List.Mem.tail _ (List.Mem.tail _ (List.Mem.tail _ (List.Mem.tail _ (List.Mem.tail _ (List.Mem.tail _ (List.Mem.tail _ (List.Mem.tail _ (List.Mem.tail _ (List.Mem.tail _ (List.Mem.tail _ (List.Mem.head _))))))))))))))
  have lv1 := H.lt (w5.heap.size) 0 (.int .i64 p1) (List.Mem.tail _ (List.Mem.tail _ (List.Mem.tail _ (List.Mem.tail _ (List.Mem.tail _ (List.Mem.tail _ (List.Mem.tail _ (List.Mem.tail _ (List.Mem.tail _ (List.Mem.tail _ (List.Mem.tail _ (List.Mem.tail _ (List.Mem.head _)))))))))))))
  have cv20 := H.cell (w6.heap.size) 0 (.int .i64 p2) (List.Mem.tail _ (List.Mem.tail _ (List.Mem.tail _ (List.Mem.tail _ (List.Mem.tail _ (List.Mem.tail _ (List.Mem.tail _ (List.Mem.tail _ (List.Mem.head _)))))))))
  have cv21 := H.cell (w6.heap.size) 1 (.int .i64 q2) (List.Mem.tail _ (List.Mem.tail _ (List.Mem.tail _ (List.Mem.tail _ (List.Mem.tail _ (List.Mem.tail _ (List.Mem.tail _ (List.Mem.tail _ (List.Mem.tail _ (List.Mem.head _))))))))))
  have lv2 := H.lt (w6.heap.size) 0 (.int .i64 p2) (List.Mem.tail _ (List.Mem.tail _ (List.Mem.tail _ (List.Mem.tail _ (List.Mem.tail _ (List.Mem.tail _ (List.Mem.tail _ (List.Mem.tail _ (List.Mem.head _)))))))))
  have cv30 := H.cell (w7.heap.size) 0 (.int .i64 p0) (List.Mem.tail _ (List.Mem.tail _ (List.Mem.tail _ (List.Mem.tail _ (List.Mem.head _)))))
  have cv31 := H.cell (w7.heap.size) 1 (.int .i64 q0) (List.Mem.tail _ (List.Mem.tail _ (List.Mem.tail _ (List.Mem.tail _ (List.Mem.tail _ (List.Mem.head _))))))
  have lv3 := H.lt (w7.heap.size) 0 (.int .i64 p0) (List.Mem.tail _ (List.Mem.tail _ (List.Mem.tail _ (List.Mem.tail _ (List.Mem.head _)))))
  have cv40 := H.cell (w8.heap.size) 0 (.int .i64 p1) (List.Mem.head _)
  have cv41 := H.cell (w8.heap.size) 1 (.int .i64 q1) (List.Mem.tail _ (List.Mem.head _))
  have lv4 := H.lt (w8.heap.size) 0 (.int .i64 p1) (List.Mem.head _)
  go_wp2_with fail
  clear cv00 cv01 lv0 cv10 cv11 lv1 cv20 cv21 lv2 cv30 cv31 lv3 cv40 cv41 lv4
  replace H := (H.pair (w9.heap.size) (.int .i64 p2) (.int .i64 q2) 24 rfl)
  (with_reducible refine (rof_any b y m d 0 _ O2.out).mono ?_)
  rintro e w10 ⟨rfl, hb⟩
  replace H := H.below hb
  clear hb
  go_wp2_with fail
  replace H := (H.triple (w10.heap.size) (.int .i64 y) (.int .i64 m) (.int .i64 d) 41 rfl)
  (with_reducible refine (rleap_is y true _ HB.out).mono ?_)
  rintro e w11 ⟨rfl, hb⟩
  replace H := H.below hb
  clear hb
  go_wp2_with fail
  (with_reducible refine (K.byyears a (b + 1) p3 q3 0 _ (H.facts (List.Mem.tail _ (List.Mem.tail _ (List.Mem.tail _ (List.Mem.tail _ (List.Mem.tail _ (List.Mem.tail _ (List.Mem.tail _ (List.Mem.tail _ (List.Mem.tail _ (List.Mem.tail _ (List.Mem.tail _ (List.Mem.tail _ (List.Mem.tail _ (List.Mem.tail _ (List.Mem.tail _ (List.Mem.tail _ (List.Mem.tail _ (List.Mem.tail _ (List.Mem.tail _ (List.Mem.tail _ (List.Mem.tail _ (List.Mem.tail _ (List.Mem.tail _ (List.Mem.tail _ (List.Mem.tail _ (List.Mem.tail _ (List.Mem.tail _ (List.Mem.tail _ (List.Mem.tail _ (List.Mem.tail _ (List.Mem.head _)))))))))))))))))))))))))))))))) W6.out).mono ?_)
  rintro e w12 ⟨rfl, hb⟩
  replace H := H.below hb
  clear hb
  go_wp2_with fail
  replace H := (H.pair (w12.heap.size) (.int .i64 p3) (.int .i64 q3) 24 rfl)
  (with_reducible refine (K.by360 a (b + 1) p4 q4 0 _ (H.facts (List.Mem.tail _ (List.Mem.tail _ (List.Mem.tail _ (List.Mem.tail _ (List.Mem.tail _ (List.Mem.tail _ (List.Mem.tail _ (List.Mem.tail _ (List.Mem.tail _ (List.Mem.tail _ (List.Mem.tail _ (List.Mem.tail _ (List.Mem.tail _ (List.Mem.tail _ (List.Mem.tail _ (List.Mem.tail _ (List.Mem.tail _ (List.Mem.tail _ (List.Mem.tail _ (List.Mem.tail _ (List.Mem.tail _ (List.Mem.tail _ (List.Mem.tail _ (List.Mem.tail _ (List.Mem.tail _ (List.Mem.tail _ (List.Mem.tail _ (List.Mem.tail _ (List.Mem.tail _ (List.Mem.tail _ (List.Mem.tail _ (List.Mem.tail _ (List.Mem.tail _ (List.Mem.tail _ (List.Mem.head _)))))))))))))))))))))))))))))))))))) W7.out).mono ?_)
  rintro e w13 ⟨rfl, hb⟩
  replace H := H.below hb
  clear hb
  have cv20 := H.cell (w6.heap.size) 0 (.int .i64 p2) (List.Mem.tail _ (List.Mem.tail _ (List.Mem.tail _ (List.Mem.tail _ (List.Mem.tail _ (List.Mem.tail _ (List.Mem.tail _ (List.Mem.tail _ (List.Mem.tail _ (List.Mem.tail _ (List.Mem.tail _ (List.Mem.tail _ (List.Mem.tail _ (List.Mem.tail _ (List.Mem.tail _ (List.Mem.tail _ (List.Mem.tail _ (List.Mem.tail _ (List.Mem.tail _ (List.Mem.tail _ (List.Mem.tail _ (List.Mem.tail _ (List.Mem.head _)))))))))))))))))))))))
  have cv21 := H.cell (w6.heap.size) 1 (.int .i64 q2) (List.Mem.tail _ (List.Mem.tail _ (List.Mem.tail _ (List.Mem.tail _ (List.Mem.tail _ (List.Mem.tail _ (List.Mem.tail _ (List.Mem.tail _ (List.Mem.tail _ (List.Mem.tail _ (List.Mem.tail _ (List.Mem.tail _ (List.Mem.tail _ (List.Mem.tail _ (List.Mem.tail _ (List.Mem.tail _ (List.Mem.tail _ (List.Mem.tail _ (List.Mem.tail _ (List.Mem.tail _ (List.Mem.tail _ (List.Mem.tail _ (List.Mem.tail _ (List.Mem.head _))))))))))))))))))))))))
  have lv2 := H.lt (w6.heap.size) 0 (.int .i64 p2) (List.Mem.tail _ (List.Mem.tail _ (List.Mem.tail _ (List.Mem.tail _ (List.Mem.tail _ (List.Mem.tail _ (List.Mem.tail _ (List.Mem.tail _ (List.Mem.tail _ (List.Mem.tail _ (List.Mem.tail _ (List.Mem.tail _ (List.Mem.tail _ (List.Mem.tail _ (List.Mem.tail _ (List.Mem.tail _ (List.Mem.tail _ (List.Mem.tail _ (List.Mem.tail _ (List.Mem.tail _ (List.Mem.tail _ (List.Mem.tail _ (List.Mem.head _)))))))))))))))))))))))
  go_wp2_with fail
  clear cv20 cv21 lv2
  replace H := (H.pair (w13.heap.size) (.int .i64 p4) (.int .i64 q4) 24 rfl)
  (with_reducible refine (X0.out _).mono ?_)
  rintro e w14 ⟨rfl, hb⟩
  replace H := H.below hb
  clear hb
  have cv00 := H.cell (w4.heap.size) 0 (.int .i64 p0) (List.Mem.tail _ (List.Mem.tail _ (List.Mem.tail _ (List.Mem.tail _ (List.Mem.tail _ (List.Mem.tail _ (List.Mem.tail _ (List.Mem.tail _ (List.Mem.tail _ (List.Mem.tail _ (List.Mem.tail _ (List.Mem.tail _ (List.Mem.tail _ (List.Mem.tail _ (List.Mem.tail _ (List.Mem.tail _ (List.Mem.tail _ (List.Mem.tail _ (List.Mem.tail _ (List.Mem.tail _ (List.Mem.tail _ (List.Mem.tail _ (List.Mem.tail _ (List.Mem.tail _ (List.Mem.tail _ (List.Mem.tail _ (List.Mem.tail _ (List.Mem.tail _ (List.Mem.tail _ (List.Mem.tail _ (List.Mem.tail _ (List.Mem.tail _ (List.Mem.tail _ (List.Mem.tail _ (List.Mem.head _)))))))))))))))))))))))))))))))))))
  have cv01 := H.cell (w4.heap.size) 1 (.int .i64 q0) (List.Mem.tail _ (List.Mem.tail _ (List.Mem.tail _ (List.Mem.tail _ (List.Mem.tail _ (List.Mem.tail _ (List.Mem.tail _ (List.Mem.tail _ (List.Mem.tail _ (List.Mem.tail _ (List.Mem.tail _ (List.Mem.tail _ (List.Mem.tail _ (List.Mem.tail _ (List.Mem.tail _ (List.Mem.tail _ (List.Mem.tail _ (List.Mem.tail _ (List.Mem.tail _ (List.Mem.tail _ (List.Mem.tail _ (List.Mem.tail _ (List.Mem.tail _ (List.Mem.tail _ (List.Mem.tail _ (List.Mem.tail _ (List.Mem.tail _ (List.Mem.tail _ (List.Mem.tail _ (List.Mem.tail _ (List.Mem.tail _ (List.Mem.tail _ (List.Mem.tail _ (List.Mem.tail _ (List.Mem.tail _ (List.Mem.head _))))))))))))))))))))))))))))))))))))
  have lv0 := H.lt (w4.heap.size) 0 (.int .i64 p0) (List.Mem.tail _ (List.Mem.tail _ (List.Mem.tail _ (List.Mem.tail _ (List.Mem.tail _ (List.Mem.tail _ (List.Mem.tail _ (List.Mem.tail _ (List.Mem.tail _ (List.Mem.tail _ (List.Mem.tail _ (List.Mem.tail _ (List.Mem.tail _ (List.Mem.tail _ (List.Mem.tail _ (List.Mem.tail _ (List.Mem.tail _ (List.Mem.tail _ (List.Mem.tail _ (List.Mem.tail _ (List.Mem.tail _ (List.Mem.tail _ (List.Mem.tail _ (List.Mem.tail _ (List.Mem.tail _ (List.Mem.tail _ (List.Mem.tail _ (List.Mem.tail _ (List.Mem.tail _ (List.Mem.tail _ (List.Mem.tail _ (List.Mem.tail _ (List.Mem.tail _ (List.Mem.tail _ (List.Mem.head _)))))))))))))))))))))))))))))))))))
  go_wp2_with fail
  clear cv00 cv01 lv0
  replace H := (H.pair (w14.heap.size) (.int .i64 p3) (.int .i64 q3) 24 rfl)
  (with_reducible refine (X1.out _).mono ?_)
  rintro e w15 ⟨rfl, hb⟩
  replace H := H.below hb
  clear hb
  have cx0 := H.cell (w12.heap.size) 0 (.int .i64 p3) (List.Mem.tail _ (List.Mem.tail _ (List.Mem.tail _ (List.Mem.tail _ (List.Mem.tail _ (List.Mem.tail _ (List.Mem.tail _ (List.Mem.tail _ (List.Mem.head _)))))))))
  have cx1 := H.cell (w12.heap.size) 1 (.int .i64 q3) (List.Mem.tail _ (List.Mem.tail _ (List.Mem.tail _ (List.Mem.tail _ (List.Mem.tail _ (List.Mem.tail _ (List.Mem.tail _ (List.Mem.tail _ (List.Mem.tail _ (List.Mem.head _))))))))))
  have lx := H.lt (w12.heap.size) 0 (.int .i64 p3) (List.Mem.tail _ (List.Mem.tail _ (List.Mem.tail _ (List.Mem.tail _ (List.Mem.tail _ (List.Mem.tail _ (List.Mem.tail _ (List.Mem.tail _ (List.Mem.head _)))))))))
  have cy0 := H.cell (w13.heap.size) 0 (.int .i64 p4) (List.Mem.tail _ (List.Mem.tail _ (List.Mem.tail _ (List.Mem.tail _ (List.Mem.head _)))))
  have cy1 := H.cell (w13.heap.size) 1 (.int .i64 q4) (List.Mem.tail _ (List.Mem.tail _ (List.Mem.tail _ (List.Mem.tail _ (List.Mem.tail _ (List.Mem.head _))))))
  have ly := H.lt (w13.heap.size) 0 (.int .i64 p4) (List.Mem.tail _ (List.Mem.tail _ (List.Mem.tail _ (List.Mem.tail _ (List.Mem.head _)))))
  have cv0 := H.cell (w14.heap.size) 0 (.int .i64 p3) (List.Mem.head _)
  have cv1 := H.cell (w14.heap.size) 1 (.int .i64 q3) (List.Mem.tail _ (List.Mem.head _))
  have lv := H.lt (w14.heap.size) 0 (.int .i64 p3) (List.Mem.head _)
  go_wp2_with fail
  clear cx0 cx1 lx cy0 cy1 ly cv0 cv1 lv
  replace H := (H.pair (w15.heap.size) (.int .i64 p4) (.int .i64 q4) 24 rfl)
  go_ret
  exact ⟨rfl, H.old⟩

set_option maxHeartbeats 4000000 in
set_option maxRecDepth 100000 in
theorem amoves_false (K : Ways) (a b y m d p0 q0 p1 q1 p2 q2 p3 q3 p4 q4 : Int) (w : World) (hL : Facts w) (h1 : 1 ≤ a ∧ a ≤ 3652059) (h2 : 1 ≤ b ∧ b ≤ 3652059) (g : ¬ a > b) (h : ¬ b + 146097 > 3652059) (hy : DayIs b y m d 0) (hl : lp y = false) (w0 : AcIs aX 360 a b p0 q0 0) (w1 : AcIs aX 365 a b p1 q1 0) (w2 : AcIs yX 133590 a b p2 q2 0) (w3 : AcIs aX 360 (a + 146097) (b + 146097) p0 q0 0) (w4 : AcIs aX 365 (a + 146097) (b + 146097) p1 q1 0) (w5 : AcIs yX 133590 (a + 146097) (b + 146097) p2 q2 0) (w6 : AcIs yX 133590 a (b + 1) p3 q3 0) (w7 : AcIs aX 360 a (b + 1) p4 q4 0) (r0 : rightB p0 q0 = true) (r2 : rightB p2 q2 = true) (s0 : rN (p2 * 365 + 1 * q2) (q2 * 365) = p3 ∧ rD (p2 * 365 + 1 * q2) (q2 * 365) = q3 ∧ rE (p2 * 365 + 1 * q2) (q2 * 365) = 0) (s1 : rN (p0 * 360 + 1 * q0) (q0 * 360) = p4 ∧ rD (p0 * 360 + 1 * q0) (q0 * 360) = q4 ∧ rE (p0 * 360 + 1 * q0) (q0 * 360) = 0) :
    Calls Tryd.prog 7 #[.int .i64 a, .int .i64 b] w fun e w' => e = .returned (.bool true) ∧ Below w.heap.size w w' := by
  have H := (Held.start w).add (f := factsF) hL
  clear hL
  have D1 : Hid (decide (1 ≤ a ∧ a ≤ 3652059) = true) := Lib.hid (by rw [decide_eq_true_eq]; exact h1)
  have D2 : Hid (decide (1 ≤ b ∧ b ≤ 3652059) = true) := Lib.hid (by rw [decide_eq_true_eq]; exact h2)
  have O2 := Lib.hid hy
  have HB := Lib.hid hl
  clear hy hl
  have W0 := Lib.hid w0
  clear w0
  have W1 := Lib.hid w1
  clear w1
  have W2 := Lib.hid w2
  clear w2
  have W3 := Lib.hid w3
  clear w3
  have W4 := Lib.hid w4
  clear w4
  have W5 := Lib.hid w5
  clear w5
  have W6 := Lib.hid w6
  have W7 := Lib.hid w7
  have X0 := Lib.hid (fun v => refadd8_is p2 q2 1 365 p3 q3 0 v r2 (by decide +kernel) s0)
  have X1 := Lib.hid (fun v => refadd8_is p0 q0 1 360 p4 q4 0 v r0 (by decide +kernel) s1)
  clear w6 w7 r0 r2 s0 s1
  go_enter Tryd.func7, Tryd.ntmps7
  go_wp2_with fail
  (with_reducible refine (ashown_any K _ (H.facts (List.Mem.head _))).mono ?_)
  rintro e w1 ⟨rfl, hb⟩
  replace H := H.below hb
  clear hb
  go_wp2_with fail
  (with_reducible refine (rday_is a true _ D1.out).mono ?_)
  rintro e w2 ⟨rfl, hb⟩
  replace H := H.below hb
  clear hb
  go_wp2_with fail
  (with_reducible refine (rday_is b true _ D2.out).mono ?_)
  rintro e w3 ⟨rfl, hb⟩
  replace H := H.below hb
  clear hb
  go_wp2_with fail
  (with_reducible refine (K.by360 a b p0 q0 0 _ (H.facts (List.Mem.head _)) W0.out).mono ?_)
  rintro e w4 ⟨rfl, hb⟩
  replace H := H.below hb
  clear hb
  go_wp2_with fail
  replace H := (H.pair (w4.heap.size) (.int .i64 p0) (.int .i64 q0) 24 rfl)
  (with_reducible refine (K.by365 a b p1 q1 0 _ (H.facts (List.Mem.tail _ (List.Mem.tail _ (List.Mem.tail _ (List.Mem.tail _ (List.Mem.head _)))))) W1.out).mono ?_)
  rintro e w5 ⟨rfl, hb⟩
  replace H := H.below hb
  clear hb
  go_wp2_with fail
  replace H := (H.pair (w5.heap.size) (.int .i64 p1) (.int .i64 q1) 24 rfl)
  (with_reducible refine (K.byyears a b p2 q2 0 _ (H.facts (List.Mem.tail _ (List.Mem.tail _ (List.Mem.tail _ (List.Mem.tail _ (List.Mem.tail _ (List.Mem.tail _ (List.Mem.tail _ (List.Mem.tail _ (List.Mem.head _)))))))))) W2.out).mono ?_)
  rintro e w6 ⟨rfl, hb⟩
  replace H := H.below hb
  clear hb
  go_wp2_with fail
  replace H := (H.pair (w6.heap.size) (.int .i64 p2) (.int .i64 q2) 24 rfl)
  (with_reducible refine (K.by360 (a + 146097) (b + 146097) p0 q0 0 _ (H.facts (List.Mem.tail _ (List.Mem.tail _ (List.Mem.tail _ (List.Mem.tail _ (List.Mem.tail _ (List.Mem.tail _ (List.Mem.tail _ (List.Mem.tail _ (List.Mem.tail _ (List.Mem.tail _ (List.Mem.tail _ (List.Mem.tail _ (List.Mem.head _)))))))))))))) W3.out).mono ?_)
  rintro e w7 ⟨rfl, hb⟩
  replace H := H.below hb
  clear hb
  go_wp2_with fail
  replace H := (H.pair (w7.heap.size) (.int .i64 p0) (.int .i64 q0) 24 rfl)
  (with_reducible refine (K.by365 (a + 146097) (b + 146097) p1 q1 0 _ (H.facts (List.Mem.tail _ (List.Mem.tail _ (List.Mem.tail _ (List.Mem.tail _ (List.Mem.tail _ (List.Mem.tail _ (List.Mem.tail _ (List.Mem.tail _ (List.Mem.tail _ (List.Mem.tail _ (List.Mem.tail _ (List.Mem.tail _ (List.Mem.tail _ (List.Mem.tail _ (List.Mem.tail _ (List.Mem.tail _ (List.Mem.head _)))))))))))))))))) W4.out).mono ?_)
  rintro e w8 ⟨rfl, hb⟩
  replace H := H.below hb
  clear hb
  go_wp2_with fail
  replace H := (H.pair (w8.heap.size) (.int .i64 p1) (.int .i64 q1) 24 rfl)
  (with_reducible refine (K.byyears (a + 146097) (b + 146097) p2 q2 0 _ (H.facts (List.Mem.tail _ (List.Mem.tail _ (List.Mem.tail _ (List.Mem.tail _ (List.Mem.tail _ (List.Mem.tail _ (List.Mem.tail _ (List.Mem.tail _ (List.Mem.tail _ (List.Mem.tail _ (List.Mem.tail _ (List.Mem.tail _ (List.Mem.tail _ (List.Mem.tail _ (List.Mem.tail _ (List.Mem.tail _ (List.Mem.tail _ (List.Mem.tail _ (List.Mem.tail _ (List.Mem.tail _ (List.Mem.head _)))))))))))))))))))))) W5.out).mono ?_)
  rintro e w9 ⟨rfl, hb⟩
  replace H := H.below hb
  clear hb
  have cv00 := H.cell (w4.heap.size) 0 (.int .i64 p0) (List.Mem.tail _ (List.Mem.tail _ (List.Mem.tail _ (List.Mem.tail _ (List.Mem.tail _ (List.Mem.tail _ (List.Mem.tail _ (List.Mem.tail _ (List.Mem.tail _ (List.Mem.tail _ (List.Mem.tail _ (List.Mem.tail _ (List.Mem.tail _ (List.Mem.tail _ (List.Mem.tail _ (List.Mem.tail _ (List.Mem.head _)))))))))))))))))
  have cv01 := H.cell (w4.heap.size) 1 (.int .i64 q0) (List.Mem.tail _ (List.Mem.tail _ (List.Mem.tail _ (List.Mem.tail _ (List.Mem.tail _ (List.Mem.tail _ (List.Mem.tail _ (List.Mem.tail _ (List.Mem.tail _ (List.Mem.tail _ (List.Mem.tail _ (List.Mem.tail _ (List.Mem.tail _ (List.Mem.tail _ (List.Mem.tail _ (List.Mem.tail _ (List.Mem.tail _ (List.Mem.head _))))))))))))))))))
  have lv0 := H.lt (w4.heap.size) 0 (.int .i64 p0) (List.Mem.tail _ (List.Mem.tail _ (List.Mem.tail _ (List.Mem.tail _ (List.Mem.tail _ (List.Mem.tail _ (List.Mem.tail _ (List.Mem.tail _ (List.Mem.tail _ (List.Mem.tail _ (List.Mem.tail _ (List.Mem.tail _ (List.Mem.tail _ (List.Mem.tail _ (List.Mem.tail _ (List.Mem.tail _ (List.Mem.head _)))))))))))))))))
  have cv10 := H.cell (w5.heap.size) 0 (.int .i64 p1) (List.Mem.tail _ (List.Mem.tail _ (List.Mem.tail _ (List.Mem.tail _ (List.Mem.tail _ (List.Mem.tail _ (List.Mem.tail _ (List.Mem.tail _ (List.Mem.tail _ (List.Mem.tail _ (List.Mem.tail _ (List.Mem.tail _ (List.Mem.head _)))))))))))))
  have cv11 := H.cell (w5.heap.size) 1 (.int .i64 q1) (List.Mem.tail _ (List.Mem.tail _ (List.Mem.tail _ (List.Mem.tail _ (List.Mem.tail _ (List.Mem.tail _ (List.Mem.tail _ (List.Mem.tail _ (List.Mem.tail _ (List.Mem.tail _ (List.Mem.tail _ (List.Mem.tail _ (List.Mem.tail _ (List.Mem.head _))))))))))))))
  have lv1 := H.lt (w5.heap.size) 0 (.int .i64 p1) (List.Mem.tail _ (List.Mem.tail _ (List.Mem.tail _ (List.Mem.tail _ (List.Mem.tail _ (List.Mem.tail _ (List.Mem.tail _ (List.Mem.tail _ (List.Mem.tail _ (List.Mem.tail _ (List.Mem.tail _ (List.Mem.tail _ (List.Mem.head _)))))))))))))
  have cv20 := H.cell (w6.heap.size) 0 (.int .i64 p2) (List.Mem.tail _ (List.Mem.tail _ (List.Mem.tail _ (List.Mem.tail _ (List.Mem.tail _ (List.Mem.tail _ (List.Mem.tail _ (List.Mem.tail _ (List.Mem.head _)))))))))
  have cv21 := H.cell (w6.heap.size) 1 (.int .i64 q2) (List.Mem.tail _ (List.Mem.tail _ (List.Mem.tail _ (List.Mem.tail _ (List.Mem.tail _ (List.Mem.tail _ (List.Mem.tail _ (List.Mem.tail _ (List.Mem.tail _ (List.Mem.head _))))))))))
  have lv2 := H.lt (w6.heap.size) 0 (.int .i64 p2) (List.Mem.tail _ (List.Mem.tail _ (List.Mem.tail _ (List.Mem.tail _ (List.Mem.tail _ (List.Mem.tail _ (List.Mem.tail _ (List.Mem.tail _ (List.Mem.head _)))))))))
  have cv30 := H.cell (w7.heap.size) 0 (.int .i64 p0) (List.Mem.tail _ (List.Mem.tail _ (List.Mem.tail _ (List.Mem.tail _ (List.Mem.head _)))))
  have cv31 := H.cell (w7.heap.size) 1 (.int .i64 q0) (List.Mem.tail _ (List.Mem.tail _ (List.Mem.tail _ (List.Mem.tail _ (List.Mem.tail _ (List.Mem.head _))))))
  have lv3 := H.lt (w7.heap.size) 0 (.int .i64 p0) (List.Mem.tail _ (List.Mem.tail _ (List.Mem.tail _ (List.Mem.tail _ (List.Mem.head _)))))
  have cv40 := H.cell (w8.heap.size) 0 (.int .i64 p1) (List.Mem.head _)
  have cv41 := H.cell (w8.heap.size) 1 (.int .i64 q1) (List.Mem.tail _ (List.Mem.head _))
  have lv4 := H.lt (w8.heap.size) 0 (.int .i64 p1) (List.Mem.head _)
  go_wp2_with fail
  clear cv00 cv01 lv0 cv10 cv11 lv1 cv20 cv21 lv2 cv30 cv31 lv3 cv40 cv41 lv4
  replace H := (H.pair (w9.heap.size) (.int .i64 p2) (.int .i64 q2) 24 rfl)
  (with_reducible refine (rof_any b y m d 0 _ O2.out).mono ?_)
  rintro e w10 ⟨rfl, hb⟩
  replace H := H.below hb
  clear hb
  go_wp2_with fail
  replace H := (H.triple (w10.heap.size) (.int .i64 y) (.int .i64 m) (.int .i64 d) 41 rfl)
  (with_reducible refine (rleap_is y false _ HB.out).mono ?_)
  rintro e w11 ⟨rfl, hb⟩
  replace H := H.below hb
  clear hb
  go_wp2_with fail
  (with_reducible refine (K.byyears a (b + 1) p3 q3 0 _ (H.facts (List.Mem.tail _ (List.Mem.tail _ (List.Mem.tail _ (List.Mem.tail _ (List.Mem.tail _ (List.Mem.tail _ (List.Mem.tail _ (List.Mem.tail _ (List.Mem.tail _ (List.Mem.tail _ (List.Mem.tail _ (List.Mem.tail _ (List.Mem.tail _ (List.Mem.tail _ (List.Mem.tail _ (List.Mem.tail _ (List.Mem.tail _ (List.Mem.tail _ (List.Mem.tail _ (List.Mem.tail _ (List.Mem.tail _ (List.Mem.tail _ (List.Mem.tail _ (List.Mem.tail _ (List.Mem.tail _ (List.Mem.tail _ (List.Mem.tail _ (List.Mem.tail _ (List.Mem.tail _ (List.Mem.tail _ (List.Mem.head _)))))))))))))))))))))))))))))))) W6.out).mono ?_)
  rintro e w12 ⟨rfl, hb⟩
  replace H := H.below hb
  clear hb
  go_wp2_with fail
  replace H := (H.pair (w12.heap.size) (.int .i64 p3) (.int .i64 q3) 24 rfl)
  (with_reducible refine (K.by360 a (b + 1) p4 q4 0 _ (H.facts (List.Mem.tail _ (List.Mem.tail _ (List.Mem.tail _ (List.Mem.tail _ (List.Mem.tail _ (List.Mem.tail _ (List.Mem.tail _ (List.Mem.tail _ (List.Mem.tail _ (List.Mem.tail _ (List.Mem.tail _ (List.Mem.tail _ (List.Mem.tail _ (List.Mem.tail _ (List.Mem.tail _ (List.Mem.tail _ (List.Mem.tail _ (List.Mem.tail _ (List.Mem.tail _ (List.Mem.tail _ (List.Mem.tail _ (List.Mem.tail _ (List.Mem.tail _ (List.Mem.tail _ (List.Mem.tail _ (List.Mem.tail _ (List.Mem.tail _ (List.Mem.tail _ (List.Mem.tail _ (List.Mem.tail _ (List.Mem.tail _ (List.Mem.tail _ (List.Mem.tail _ (List.Mem.tail _ (List.Mem.head _)))))))))))))))))))))))))))))))))))) W7.out).mono ?_)
  rintro e w13 ⟨rfl, hb⟩
  replace H := H.below hb
  clear hb
  have cv20 := H.cell (w6.heap.size) 0 (.int .i64 p2) (List.Mem.tail _ (List.Mem.tail _ (List.Mem.tail _ (List.Mem.tail _ (List.Mem.tail _ (List.Mem.tail _ (List.Mem.tail _ (List.Mem.tail _ (List.Mem.tail _ (List.Mem.tail _ (List.Mem.tail _ (List.Mem.tail _ (List.Mem.tail _ (List.Mem.tail _ (List.Mem.tail _ (List.Mem.tail _ (List.Mem.tail _ (List.Mem.tail _ (List.Mem.tail _ (List.Mem.tail _ (List.Mem.tail _ (List.Mem.tail _ (List.Mem.head _)))))))))))))))))))))))
  have cv21 := H.cell (w6.heap.size) 1 (.int .i64 q2) (List.Mem.tail _ (List.Mem.tail _ (List.Mem.tail _ (List.Mem.tail _ (List.Mem.tail _ (List.Mem.tail _ (List.Mem.tail _ (List.Mem.tail _ (List.Mem.tail _ (List.Mem.tail _ (List.Mem.tail _ (List.Mem.tail _ (List.Mem.tail _ (List.Mem.tail _ (List.Mem.tail _ (List.Mem.tail _ (List.Mem.tail _ (List.Mem.tail _ (List.Mem.tail _ (List.Mem.tail _ (List.Mem.tail _ (List.Mem.tail _ (List.Mem.tail _ (List.Mem.head _))))))))))))))))))))))))
  have lv2 := H.lt (w6.heap.size) 0 (.int .i64 p2) (List.Mem.tail _ (List.Mem.tail _ (List.Mem.tail _ (List.Mem.tail _ (List.Mem.tail _ (List.Mem.tail _ (List.Mem.tail _ (List.Mem.tail _ (List.Mem.tail _ (List.Mem.tail _ (List.Mem.tail _ (List.Mem.tail _ (List.Mem.tail _ (List.Mem.tail _ (List.Mem.tail _ (List.Mem.tail _ (List.Mem.tail _ (List.Mem.tail _ (List.Mem.tail _ (List.Mem.tail _ (List.Mem.tail _ (List.Mem.tail _ (List.Mem.head _)))))))))))))))))))))))
  go_wp2_with fail
  clear cv20 cv21 lv2
  replace H := (H.pair (w13.heap.size) (.int .i64 p4) (.int .i64 q4) 24 rfl)
  (with_reducible refine (X0.out _).mono ?_)
  rintro e w14 ⟨rfl, hb⟩
  replace H := H.below hb
  clear hb
  have cv00 := H.cell (w4.heap.size) 0 (.int .i64 p0) (List.Mem.tail _ (List.Mem.tail _ (List.Mem.tail _ (List.Mem.tail _ (List.Mem.tail _ (List.Mem.tail _ (List.Mem.tail _ (List.Mem.tail _ (List.Mem.tail _ (List.Mem.tail _ (List.Mem.tail _ (List.Mem.tail _ (List.Mem.tail _ (List.Mem.tail _ (List.Mem.tail _ (List.Mem.tail _ (List.Mem.tail _ (List.Mem.tail _ (List.Mem.tail _ (List.Mem.tail _ (List.Mem.tail _ (List.Mem.tail _ (List.Mem.tail _ (List.Mem.tail _ (List.Mem.tail _ (List.Mem.tail _ (List.Mem.tail _ (List.Mem.tail _ (List.Mem.tail _ (List.Mem.tail _ (List.Mem.tail _ (List.Mem.tail _ (List.Mem.tail _ (List.Mem.tail _ (List.Mem.head _)))))))))))))))))))))))))))))))))))
  have cv01 := H.cell (w4.heap.size) 1 (.int .i64 q0) (List.Mem.tail _ (List.Mem.tail _ (List.Mem.tail _ (List.Mem.tail _ (List.Mem.tail _ (List.Mem.tail _ (List.Mem.tail _ (List.Mem.tail _ (List.Mem.tail _ (List.Mem.tail _ (List.Mem.tail _ (List.Mem.tail _ (List.Mem.tail _ (List.Mem.tail _ (List.Mem.tail _ (List.Mem.tail _ (List.Mem.tail _ (List.Mem.tail _ (List.Mem.tail _ (List.Mem.tail _ (List.Mem.tail _ (List.Mem.tail _ (List.Mem.tail _ (List.Mem.tail _ (List.Mem.tail _ (List.Mem.tail _ (List.Mem.tail _ (List.Mem.tail _ (List.Mem.tail _ (List.Mem.tail _ (List.Mem.tail _ (List.Mem.tail _ (List.Mem.tail _ (List.Mem.tail _ (List.Mem.tail _ (List.Mem.head _))))))))))))))))))))))))))))))))))))
  have lv0 := H.lt (w4.heap.size) 0 (.int .i64 p0) (List.Mem.tail _ (List.Mem.tail _ (List.Mem.tail _ (List.Mem.tail _ (List.Mem.tail _ (List.Mem.tail _ (List.Mem.tail _ (List.Mem.tail _ (List.Mem.tail _ (List.Mem.tail _ (List.Mem.tail _ (List.Mem.tail _ (List.Mem.tail _ (List.Mem.tail _ (List.Mem.tail _ (List.Mem.tail _ (List.Mem.tail _ (List.Mem.tail _ (List.Mem.tail _ (List.Mem.tail _ (List.Mem.tail _ (List.Mem.tail _ (List.Mem.tail _ (List.Mem.tail _ (List.Mem.tail _ (List.Mem.tail _ (List.Mem.tail _ (List.Mem.tail _ (List.Mem.tail _ (List.Mem.tail _ (List.Mem.tail _ (List.Mem.tail _ (List.Mem.tail _ (List.Mem.tail _ (List.Mem.head _)))))))))))))))))))))))))))))))))))
  go_wp2_with fail
  clear cv00 cv01 lv0
  replace H := (H.pair (w14.heap.size) (.int .i64 p3) (.int .i64 q3) 24 rfl)
  (with_reducible refine (X1.out _).mono ?_)
  rintro e w15 ⟨rfl, hb⟩
  replace H := H.below hb
  clear hb
  have cx0 := H.cell (w12.heap.size) 0 (.int .i64 p3) (List.Mem.tail _ (List.Mem.tail _ (List.Mem.tail _ (List.Mem.tail _ (List.Mem.tail _ (List.Mem.tail _ (List.Mem.tail _ (List.Mem.tail _ (List.Mem.head _)))))))))
  have cx1 := H.cell (w12.heap.size) 1 (.int .i64 q3) (List.Mem.tail _ (List.Mem.tail _ (List.Mem.tail _ (List.Mem.tail _ (List.Mem.tail _ (List.Mem.tail _ (List.Mem.tail _ (List.Mem.tail _ (List.Mem.tail _ (List.Mem.head _))))))))))
  have lx := H.lt (w12.heap.size) 0 (.int .i64 p3) (List.Mem.tail _ (List.Mem.tail _ (List.Mem.tail _ (List.Mem.tail _ (List.Mem.tail _ (List.Mem.tail _ (List.Mem.tail _ (List.Mem.tail _ (List.Mem.head _)))))))))
  have cy0 := H.cell (w13.heap.size) 0 (.int .i64 p4) (List.Mem.tail _ (List.Mem.tail _ (List.Mem.tail _ (List.Mem.tail _ (List.Mem.head _)))))
  have cy1 := H.cell (w13.heap.size) 1 (.int .i64 q4) (List.Mem.tail _ (List.Mem.tail _ (List.Mem.tail _ (List.Mem.tail _ (List.Mem.tail _ (List.Mem.head _))))))
  have ly := H.lt (w13.heap.size) 0 (.int .i64 p4) (List.Mem.tail _ (List.Mem.tail _ (List.Mem.tail _ (List.Mem.tail _ (List.Mem.head _)))))
  have cv0 := H.cell (w14.heap.size) 0 (.int .i64 p3) (List.Mem.head _)
  have cv1 := H.cell (w14.heap.size) 1 (.int .i64 q3) (List.Mem.tail _ (List.Mem.head _))
  have lv := H.lt (w14.heap.size) 0 (.int .i64 p3) (List.Mem.head _)
  go_wp2_with fail
  clear cx0 cx1 lx cy0 cy1 ly cv0 cv1 lv
  replace H := (H.pair (w15.heap.size) (.int .i64 p4) (.int .i64 q4) 24 rfl)
  go_ret
  exact ⟨rfl, H.old⟩

theorem amoves_walk (K : Ways) (a b : Int) (w : World) (hL : Facts w) (ha : -9223372036854775808 ≤ a ∧ a < 9223372036854775808) (hb : -9223372036854775808 ≤ b ∧ b < 9223372036854775808) :
    Calls Tryd.prog 7 #[.int .i64 a, .int .i64 b] w fun e w' => e = .returned (.bool true) ∧ Below w.heap.size w w' := by
  by_cases h1 : a < 1 ∨ 3652059 < a
  · exact amoves_a K a b w hL h1
  by_cases h2 : b < 1 ∨ 3652059 < b
  · exact amoves_b K a b w hL (by omega) h2
  have R1 : 1 ≤ a ∧ a ≤ 3652059 := by omega
  have R2 : 1 ≤ b ∧ b ≤ 3652059 := by omega
  by_cases h4 : a > b
  · exact amoves_gt K a b w hL R1 R2 h4
  by_cases h5 : b + 146097 > 3652059
  · exact amoves_far K a b w hL R1 R2 h4 h5
  obtain ⟨y1, m1, d1, a1, a2⟩ := day_of a R1.1 R1.2
  obtain ⟨y2, m2, d2, b1, b2⟩ := day_of b R2.1 R2.2
  obtain ⟨y3, m3, d3, c1, c2⟩ := day_of (b + 1) (by omega) (by omega)
  have e1 := yX_bd _ _ _ _ _ _ a1 b1 (by omega)
  have e2 := yX_next y1 m1 d1 y2 m2 d2 y3 m3 d3 b1 c1 (by omega)
  have e3 := yX_era y1 m1 d1 y2 m2 d2
  have later : ∀ y m d : Int, may y m d → nb y m d + 146097 ≤ 3652059 → may (y + 400) m d := fun y m d h hn => by
    by_cases k : 9600 ≤ y
    · have := nb_later' y m d h k; omega
    · obtain ⟨u1, u2, u3, u4, u5, u6⟩ := h
      exact ⟨by omega, by omega, u3, u4, u5, by rw [ln_era]; exact u6⟩
  have f1 := later y1 m1 d1 a1 (by omega)
  have f2 := later y2 m2 d2 b1 (by omega)
  have g1 := nb_era y1 m1 d1
  have g2 := nb_era y2 m2 d2
  obtain ⟨x, hx⟩ : ∃ x, yX y1 m1 d1 y2 m2 d2 = x := ⟨_, rfl⟩
  rw [hx] at e1 e2 e3
  rw [a2, b2] at e1
  rw [a2] at g1
  rw [b2] at g2
  have O2 : DayIs b y2 m2 d2 0 := Or.inl ⟨b1, b2, rfl⟩
  have w0 := ac_days a b 360 R1 R2 (by omega)
  have w1 := ac_days a b 365 R1 R2 (by omega)
  have w2 := ac_years y1 m1 d1 y2 m2 d2 x a1 a2 b1 b2 (by omega) hx
  have w3 := ac_days (a + 146097) (b + 146097) 360 (by omega) (by omega) (by omega)
  have w4 := ac_days (a + 146097) (b + 146097) 365 (by omega) (by omega) (by omega)
  rw [show b + 146097 - (a + 146097) = b - a by omega] at w3 w4
  have w5 := ac_years (y1 + 400) m1 d1 (y2 + 400) m2 d2 x f1 g1 f2 g2 (by omega) e3
  have w7 := ac_days a (b + 1) 360 R1 (by omega) (by omega)
  have s1 := ac_one (b - a) 360 360 1 (by omega) (by omega) (by decide) (by decide) (by decide) (by decide) (by decide)
  rw [show b - a + 1 = b + 1 - a by omega] at s1
  have r0 := ac_right (b - a) 360 (by omega) (by omega) (by decide) (by decide)
  have r2 := ac_right x 133590 (by omega) (by omega) (by decide) (by decide)
  cases hl : lp y2 with
  | true =>
    rw [hl, if_pos rfl] at e2
    have w6 := ac_years y1 m1 d1 y3 m3 d3 (x + 365) a1 a2 c1 c2 (by omega) e2
    exact amoves_true K a b y2 m2 d2 _ _ _ _ _ _ _ _ _ _ w hL R1 R2 h4 h5 O2 hl w0 w1 w2 w3 w4 w5 w6 w7 r0 r2 (ac_one x 133590 366 365 (by omega) (by omega) (by decide) (by decide) (by decide) (by decide) (by decide)) s1
  | false =>
    rw [hl, if_neg (by decide)] at e2
    have w6 := ac_years y1 m1 d1 y3 m3 d3 (x + 366) a1 a2 c1 c2 (by omega) e2
    exact amoves_false K a b y2 m2 d2 _ _ _ _ _ _ _ _ _ _ w hL R1 R2 h4 h5 O2 hl w0 w1 w2 w3 w4 w5 w6 w7 r0 r2 (ac_one x 133590 365 366 (by omega) (by omega) (by decide) (by decide) (by decide) (by decide) (by decide)) s1
end Go.Proofs.YtobdimekjhdefaaDoor
