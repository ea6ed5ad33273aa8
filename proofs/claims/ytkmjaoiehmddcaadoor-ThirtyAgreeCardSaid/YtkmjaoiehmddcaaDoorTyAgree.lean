/- ThirtyAgree: the walk. -/
import Derived.Test.YtkmjaoiehmddcaaDoorTyShown
namespace Go.Proofs.YtkmjaoiehmddcaaDoor
open Go.RowKit
set_option linter.unusedVariables false
set_option linter.unusedSimpArgs false

/-- To the same day no part is left. -/
theorem px_le (y m d1 d2 : Int) (h : d2 ≤ d1) : px y m d1 y m d2 = 0 := by unfold px; split <;> omega
theorem eX_same (y m d : Int) : eX y m d y m d = 0 := px_le _ _ _ _ (Int.le_refl _)
theorem uX_same (t : Bool) (y m d : Int) : uX t y m d y m d = 0 := by
  unfold uX
  refine px_le _ _ _ _ ?_
  unfold usC usA usB cutD
  cases t <;> cases febB y m d <;> simp <;> (repeat' split) <;> omega
theorem iX_same (t : Bool) (y m d : Int) (h : may y m d) : iX t y m d y m d = 0 := by
  unfold iX
  refine px_le _ _ _ _ ?_
  obtain ⟨-, -, -, -, -, h6⟩ := h
  have := ln_le y m
  unfold isB fulD
  by_cases e : d = ln y m
  · rw [if_pos e]; split
    · omega
    · by_cases hm : m = 2
      · subst hm
        have : ln y 2 ≤ 29 := by
          unfold ln
          cases lp y <;> simp <;> decide
        omega
      · exfalso; rename_i hh; exact hh ⟨e, fun x => hm x.2⟩
  · rw [if_neg e, if_neg (fun x => e x.1)]; exact Int.le_refl _
/-- Out of February, from the 1st to the 30th, all three ways count alike. -/
theorem fulD_in (y m d : Int) (h : may y m d) (hd : d ≤ 30) (hm : m ≠ 2) : fulD y m d = d := by
  obtain ⟨-, -, h3, h4, -, -⟩ := h
  unfold fulD
  split
  · rename_i e
    have : ln y m = 30 ∨ ln y m = 31 := by unfold ln l0; rw [if_neg (by omega)]; omega
    omega
  · rfl
theorem febB_no (y m d : Int) (hm : m ≠ 2) : febB y m d = false := by unfold febB; exact decide_eq_false (fun h => hm h.1)
theorem all_alike (t s : Bool) (y1 m1 d1 y2 m2 d2 : Int) (h1 : may y1 m1 d1) (h2 : may y2 m2 d2) (a1 : d1 ≤ 30) (a2 : d2 ≤ 30) (b1 : m1 ≠ 2) (b2 : m2 ≠ 2) :
    uX t y1 m1 d1 y2 m2 d2 = px y1 m1 d1 y2 m2 d2 ∧ eX y1 m1 d1 y2 m2 d2 = px y1 m1 d1 y2 m2 d2 ∧ iX s y1 m1 d1 y2 m2 d2 = px y1 m1 d1 y2 m2 d2 := by
  have c : ∀ d : Int, d ≤ 30 → cutD d = d := fun d h => by unfold cutD; rw [if_neg (by omega)]
  refine ⟨?_, ?_, ?_⟩
  · unfold uX
    rw [febB_no _ _ _ b1, febB_no _ _ _ b2]
    unfold usA usB usC
    simp only [Bool.false_eq_true, and_false, false_and, if_false]
    rw [c d1 a1, if_neg (by omega)]
  · unfold eX; rw [c d1 a1, c d2 a2]
  · unfold iX
    rw [fulD_in y1 m1 d1 h1 a1 b1]
    have : isB s y2 m2 d2 = d2 := by
      have f := fulD_in y2 m2 d2 h2 a2 b2
      unfold fulD at f
      unfold isB
      by_cases e : d2 = ln y2 m2
      · rw [if_pos e] at f
        split <;> omega
      · rw [if_neg (fun x => e x.1)]
    rw [this]

set_option maxHeartbeats 4000000 in
set_option maxRecDepth 100000 in
theorem tagree_a (K : Ways) (a b k : Int) (t : Bool) (w : World) (hL : Lens w) (h : a < 1 ∨ 3652059 < a) :
    Calls Tryd.prog 6 #[.agg #[.int .i64 a, .int .i64 b, .bool t, .int .i64 k]] w fun e w' => e = .returned (.bool true) ∧ Below w.heap.size w w' := by
  have H := (Held.start w).add (f := lensF) hL
  clear hL
  have D1 : Hid (decide (1 ≤ a ∧ a ≤ 3652059) = false) := Lib.hid (by rw [decide_eq_false_iff_not]; omega)
  clear h
  go_enter Tryd.func6, Tryd.ntmps6
  go_wp2_with fail
  replace H := (H.alloc (.cells #[.int .i64 a, .int .i64 b, .bool t, .int .i64 k] 54))
  (with_reducible refine (tshown_any K _ (H.lens (List.Mem.head _))).mono ?_)
  rintro e w1 ⟨rfl, hb⟩
  replace H := H.below hb
  clear hb
  go_wp2_with fail
  (with_reducible refine (rday_is a false _ D1.out).mono ?_)
  rintro e w2 ⟨rfl, hb⟩
  replace H := H.below hb
  clear hb
  go_wp2_with fail
  go_ret
  exact ⟨rfl, H.old⟩

set_option maxHeartbeats 4000000 in
set_option maxRecDepth 100000 in
theorem tagree_b (K : Ways) (a b k : Int) (t : Bool) (w : World) (hL : Lens w) (h1 : 1 ≤ a ∧ a ≤ 3652059) (h : b < 1 ∨ 3652059 < b) :
    Calls Tryd.prog 6 #[.agg #[.int .i64 a, .int .i64 b, .bool t, .int .i64 k]] w fun e w' => e = .returned (.bool true) ∧ Below w.heap.size w w' := by
  have H := (Held.start w).add (f := lensF) hL
  clear hL
  have D1 : Hid (decide (1 ≤ a ∧ a ≤ 3652059) = true) := Lib.hid (by rw [decide_eq_true_eq]; exact h1)
  have D2 : Hid (decide (1 ≤ b ∧ b ≤ 3652059) = false) := Lib.hid (by rw [decide_eq_false_iff_not]; omega)
  clear h h1
  go_enter Tryd.func6, Tryd.ntmps6
  go_wp2_with fail
  replace H := (H.alloc (.cells #[.int .i64 a, .int .i64 b, .bool t, .int .i64 k] 54))
  (with_reducible refine (tshown_any K _ (H.lens (List.Mem.head _))).mono ?_)
  rintro e w1 ⟨rfl, hb⟩
  replace H := H.below hb
  clear hb
  go_wp2_with fail
  (with_reducible refine (rday_is a true _ D1.out).mono ?_)
  rintro e w2 ⟨rfl, hb⟩
  replace H := H.below hb
  clear hb
  go_wp2_with fail
  (with_reducible refine (rday_is b false _ D2.out).mono ?_)
  rintro e w3 ⟨rfl, hb⟩
  replace H := H.below hb
  clear hb
  go_wp2_with fail
  go_ret
  exact ⟨rfl, H.old⟩

set_option maxHeartbeats 4000000 in
set_option maxRecDepth 100000 in
theorem tagree_gt (K : Ways) (a b k : Int) (t : Bool) (w : World) (hL : Lens w) (h1 : 1 ≤ a ∧ a ≤ 3652059) (h2 : 1 ≤ b ∧ b ≤ 3652059) (h : a > b) :
    Calls Tryd.prog 6 #[.agg #[.int .i64 a, .int .i64 b, .bool t, .int .i64 k]] w fun e w' => e = .returned (.bool true) ∧ Below w.heap.size w w' := by
  have H := (Held.start w).add (f := lensF) hL
  clear hL
  have D1 : Hid (decide (1 ≤ a ∧ a ≤ 3652059) = true) := Lib.hid (by rw [decide_eq_true_eq]; exact h1)
  have D2 : Hid (decide (1 ≤ b ∧ b ≤ 3652059) = true) := Lib.hid (by rw [decide_eq_true_eq]; exact h2)
  clear h1 h2
  go_enter Tryd.func6, Tryd.ntmps6
  go_wp2_with fail
  replace H := (H.alloc (.cells #[.int .i64 a, .int .i64 b, .bool t, .int .i64 k] 54))
  (with_reducible refine (tshown_any K _ (H.lens (List.Mem.head _))).mono ?_)
  rintro e w1 ⟨rfl, hb⟩
  replace H := H.below hb
  clear hb
  go_wp2_with fail
  (with_reducible refine (rday_is a true _ D1.out).mono ?_)
  rintro e w2 ⟨rfl, hb⟩
  replace H := H.below hb
  clear hb
  go_wp2_with fail
  (with_reducible refine (rday_is b true _ D2.out).mono ?_)
  rintro e w3 ⟨rfl, hb⟩
  replace H := H.below hb
  clear hb
  go_wp2_with fail
  go_ret
  exact ⟨rfl, H.old⟩

set_option maxHeartbeats 4000000 in
set_option maxRecDepth 100000 in
theorem tagree_1 (K : Ways) (a b k y1 m1 d1 y2 m2 d2 : Int) (t : Bool) (w : World) (hL : Lens w) (h1 : 1 ≤ a ∧ a ≤ 3652059) (h2 : 1 ≤ b ∧ b ≤ 3652059) (h : ¬ a > b) (hx : DayIs a y1 m1 d1 0) (hy : DayIs b y2 m2 d2 0) (z1 : PartIs eX a a 0 1 0) (z2 : PartIs (uX t) a a 0 1 0) (z3 : PartIs (iX (decide (a = k))) a a 0 1 0) (n1 : d1 > 30) :
    Calls Tryd.prog 6 #[.agg #[.int .i64 a, .int .i64 b, .bool t, .int .i64 k]] w fun e w' => e = .returned (.bool true) ∧ Below w.heap.size w w' := by
  have H := (Held.start w).add (f := lensF) hL
  clear hL
  have D1 : Hid (decide (1 ≤ a ∧ a ≤ 3652059) = true) := Lib.hid (by rw [decide_eq_true_eq]; exact h1)
  have D2 : Hid (decide (1 ≤ b ∧ b ≤ 3652059) = true) := Lib.hid (by rw [decide_eq_true_eq]; exact h2)
  have O1 := Lib.hid hx
  have O2 := Lib.hid hy
  have Z1 := Lib.hid z1
  have Z2 := Lib.hid z2
  have Z3 := Lib.hid z3
  clear hx hy z1 z2 z3 h1 h2
  go_enter Tryd.func6, Tryd.ntmps6
  go_wp2_with fail
  replace H := (H.alloc (.cells #[.int .i64 a, .int .i64 b, .bool t, .int .i64 k] 54))
  (with_reducible refine (tshown_any K _ (H.lens (List.Mem.head _))).mono ?_)
  rintro e w1 ⟨rfl, hb⟩
  replace H := H.below hb
  clear hb
  go_wp2_with fail
  (with_reducible refine (rday_is a true _ D1.out).mono ?_)
  rintro e w2 ⟨rfl, hb⟩
  replace H := H.below hb
  clear hb
  go_wp2_with fail
  (with_reducible refine (rday_is b true _ D2.out).mono ?_)
  rintro e w3 ⟨rfl, hb⟩
  replace H := H.below hb
  clear hb
  go_wp2_with fail
  (with_reducible refine (rof_any a y1 m1 d1 0 _ O1.out).mono ?_)
  rintro e w4 ⟨rfl, hb⟩
  replace H := H.below hb
  clear hb
  go_wp2_with fail
  replace H := (H.triple (w4.heap.size) (.int .i64 y1) (.int .i64 m1) (.int .i64 d1) 41 rfl)
  (with_reducible refine (rof_any b y2 m2 d2 0 _ O2.out).mono ?_)
  rintro e w5 ⟨rfl, hb⟩
  replace H := H.below hb
  clear hb
  have cx0 := H.cell (w4.heap.size) 0 (.int .i64 y1) (List.Mem.head _)
  have cx1 := H.cell (w4.heap.size) 1 (.int .i64 m1) (List.Mem.tail _ (List.Mem.head _))
  have cx2 := H.cell (w4.heap.size) 2 (.int .i64 d1) (List.Mem.tail _ (List.Mem.tail _ (List.Mem.head _)))
  have lx := H.lt (w4.heap.size) 0 (.int .i64 y1) (List.Mem.head _)
  go_wp2_with fail
  clear cx0 cx1 cx2 lx
  replace H := (H.triple (w5.heap.size) (.int .i64 y2) (.int .i64 m2) (.int .i64 d2) 41 rfl)
  (with_reducible refine (K.e a a 0 1 0 _ (H.lens (List.Mem.tail _ (List.Mem.tail _ (List.Mem.tail _ (List.Mem.tail _ (List.Mem.tail _ (List.Mem.tail _ (List.Mem.tail _ (List.Mem.tail _ (List.Mem.tail _ (List.Mem.tail _ (List.Mem.tail _ (List.Mem.tail _ (List.Mem.head _)))))))))))))) Z1.out).mono ?_)
  rintro e w6 ⟨rfl, hb⟩
  replace H := H.below hb
  clear hb
  have cx0 := H.cell (w4.heap.size) 0 (.int .i64 y1) (List.Mem.tail _ (List.Mem.tail _ (List.Mem.tail _ (List.Mem.tail _ (List.Mem.tail _ (List.Mem.tail _ (List.Mem.head _)))))))
  have cx1 := H.cell (w4.heap.size) 1 (.int .i64 m1) (List.Mem.tail _ (List.Mem.tail _ (List.Mem.tail _ (List.Mem.tail _ (List.Mem.tail _ (List.Mem.tail _ (List.Mem.tail _ (List.Mem.head _))))))))
  have cx2 := H.cell (w4.heap.size) 2 (.int .i64 d1) (List.Mem.tail _ (List.Mem.tail _ (List.Mem.tail _ (List.Mem.tail _ (List.Mem.tail _ (List.Mem.tail _ (List.Mem.tail _ (List.Mem.tail _ (List.Mem.head _)))))))))
  have lx := H.lt (w4.heap.size) 0 (.int .i64 y1) (List.Mem.tail _ (List.Mem.tail _ (List.Mem.tail _ (List.Mem.tail _ (List.Mem.tail _ (List.Mem.tail _ (List.Mem.head _)))))))
  have cy0 := H.cell (w5.heap.size) 0 (.int .i64 y2) (List.Mem.head _)
  have cy1 := H.cell (w5.heap.size) 1 (.int .i64 m2) (List.Mem.tail _ (List.Mem.head _))
  have cy2 := H.cell (w5.heap.size) 2 (.int .i64 d2) (List.Mem.tail _ (List.Mem.tail _ (List.Mem.head _)))
  have ly := H.lt (w5.heap.size) 0 (.int .i64 y2) (List.Mem.head _)
  go_wp2_with fail
  clear cx0 cx1 cx2 lx cy0 cy1 cy2 ly
  replace H := (H.pair (w6.heap.size) (.int .i64 0) (.int .i64 1) 26 rfl)
  (with_reducible refine (K.us a a 0 1 0 t _ (H.lens (List.Mem.tail _ (List.Mem.tail _ (List.Mem.tail _ (List.Mem.tail _ (List.Mem.tail _ (List.Mem.tail _ (List.Mem.tail _ (List.Mem.tail _ (List.Mem.tail _ (List.Mem.tail _ (List.Mem.tail _ (List.Mem.tail _ (List.Mem.tail _ (List.Mem.tail _ (List.Mem.tail _ (List.Mem.tail _ (List.Mem.head _)))))))))))))))))) Z2.out).mono ?_)
  rintro e w7 ⟨rfl, hb⟩
  replace H := H.below hb
  clear hb
  have cx0 := H.cell (w4.heap.size) 0 (.int .i64 y1) (List.Mem.tail _ (List.Mem.tail _ (List.Mem.tail _ (List.Mem.tail _ (List.Mem.tail _ (List.Mem.tail _ (List.Mem.tail _ (List.Mem.tail _ (List.Mem.tail _ (List.Mem.tail _ (List.Mem.head _)))))))))))
  have cx1 := H.cell (w4.heap.size) 1 (.int .i64 m1) (List.Mem.tail _ (List.Mem.tail _ (List.Mem.tail _ (List.Mem.tail _ (List.Mem.tail _ (List.Mem.tail _ (List.Mem.tail _ (List.Mem.tail _ (List.Mem.tail _ (List.Mem.tail _ (List.Mem.tail _ (List.Mem.head _))))))))))))
  have cx2 := H.cell (w4.heap.size) 2 (.int .i64 d1) (List.Mem.tail _ (List.Mem.tail _ (List.Mem.tail _ (List.Mem.tail _ (List.Mem.tail _ (List.Mem.tail _ (List.Mem.tail _ (List.Mem.tail _ (List.Mem.tail _ (List.Mem.tail _ (List.Mem.tail _ (List.Mem.tail _ (List.Mem.head _)))))))))))))
  have lx := H.lt (w4.heap.size) 0 (.int .i64 y1) (List.Mem.tail _ (List.Mem.tail _ (List.Mem.tail _ (List.Mem.tail _ (List.Mem.tail _ (List.Mem.tail _ (List.Mem.tail _ (List.Mem.tail _ (List.Mem.tail _ (List.Mem.tail _ (List.Mem.head _)))))))))))
  have cy0 := H.cell (w5.heap.size) 0 (.int .i64 y2) (List.Mem.tail _ (List.Mem.tail _ (List.Mem.tail _ (List.Mem.tail _ (List.Mem.head _)))))
  have cy1 := H.cell (w5.heap.size) 1 (.int .i64 m2) (List.Mem.tail _ (List.Mem.tail _ (List.Mem.tail _ (List.Mem.tail _ (List.Mem.tail _ (List.Mem.head _))))))
  have cy2 := H.cell (w5.heap.size) 2 (.int .i64 d2) (List.Mem.tail _ (List.Mem.tail _ (List.Mem.tail _ (List.Mem.tail _ (List.Mem.tail _ (List.Mem.tail _ (List.Mem.head _)))))))
  have ly := H.lt (w5.heap.size) 0 (.int .i64 y2) (List.Mem.tail _ (List.Mem.tail _ (List.Mem.tail _ (List.Mem.tail _ (List.Mem.head _)))))
  have co0 := H.cell (w6.heap.size) 0 (.int .i64 0) (List.Mem.head _)
  have co1 := H.cell (w6.heap.size) 1 (.int .i64 1) (List.Mem.tail _ (List.Mem.head _))
  have lo := H.lt (w6.heap.size) 0 (.int .i64 0) (List.Mem.head _)
  go_wp2_with fail
  clear cx0 cx1 cx2 lx cy0 cy1 cy2 ly co0 co1 lo
  replace H := (H.pair (w7.heap.size) (.int .i64 0) (.int .i64 1) 26 rfl)
  (with_reducible refine (K.isda a a k 0 1 0 _ (H.lens (List.Mem.tail _ (List.Mem.tail _ (List.Mem.tail _ (List.Mem.tail _ (List.Mem.tail _ (List.Mem.tail _ (List.Mem.tail _ (List.Mem.tail _ (List.Mem.tail _ (List.Mem.tail _ (List.Mem.tail _ (List.Mem.tail _ (List.Mem.tail _ (List.Mem.tail _ (List.Mem.tail _ (List.Mem.tail _ (List.Mem.tail _ (List.Mem.tail _ (List.Mem.tail _ (List.Mem.tail _ (List.Mem.head _)))))))))))))))))))))) Z3.out).mono ?_)
  rintro e w8 ⟨rfl, hb⟩
  replace H := H.below hb
  clear hb
  have cx0 := H.cell (w4.heap.size) 0 (.int .i64 y1) (List.Mem.tail _ (List.Mem.tail _ (List.Mem.tail _ (List.Mem.tail _ (List.Mem.tail _ (List.Mem.tail _ (List.Mem.tail _ (List.Mem.tail _ (List.Mem.tail _ (List.Mem.tail _ (List.Mem.tail _ (List.Mem.tail _ (List.Mem.tail _ (List.Mem.tail _ (List.Mem.head _)))))))))))))))
  have cx1 := H.cell (w4.heap.size) 1 (.int .i64 m1) (List.Mem.tail _ (List.Mem.tail _ (List.Mem.tail _ (List.Mem.tail _ (List.Mem.tail _ (List.Mem.tail _ (List.Mem.tail _ (List.Mem.tail _ (List.Mem.tail _ (List.Mem.tail _ (List.Mem.tail _ (List.Mem.tail _ (List.Mem.tail _ (List.Mem.tail _ (List.Mem.tail _ (List.Mem.head _))))))))))))))))
  have cx2 := H.cell (w4.heap.size) 2 (.int .i64 d1) (List.Mem.tail _ (List.Mem.tail _ (List.Mem.tail _ (List.Mem.tail _ (List.Mem.tail _ (List.Mem.tail _ (List.Mem.tail _ (List.Mem.tail _ (List.Mem.tail _ (List.Mem.tail _ (List.Mem.tail _ (List.Mem.tail _ (List.Mem.tail _ (List.Mem.tail _ (List.Mem.tail _ (List.Mem.tail _ (List.Mem.head _)))))))))))))))))
  have lx := H.lt (w4.heap.size) 0 (.int .i64 y1) (List.Mem.tail _ (List.Mem.tail _ (List.Mem.tail _ (List.Mem.tail _ (List.Mem.tail _ (List.Mem.tail _ (List.Mem.tail _ (List.Mem.tail _ (List.Mem.tail _ (List.Mem.tail _ (List.Mem.tail _ (List.Mem.tail _ (List.Mem.tail _ (List.Mem.tail _ (List.Mem.head _)))))))))))))))
  have cy0 := H.cell (w5.heap.size) 0 (.int .i64 y2) (List.Mem.tail _ (List.Mem.tail _ (List.Mem.tail _ (List.Mem.tail _ (List.Mem.tail _ (List.Mem.tail _ (List.Mem.tail _ (List.Mem.tail _ (List.Mem.head _)))))))))
  have cy1 := H.cell (w5.heap.size) 1 (.int .i64 m2) (List.Mem.tail _ (List.Mem.tail _ (List.Mem.tail _ (List.Mem.tail _ (List.Mem.tail _ (List.Mem.tail _ (List.Mem.tail _ (List.Mem.tail _ (List.Mem.tail _ (List.Mem.head _))))))))))
  have cy2 := H.cell (w5.heap.size) 2 (.int .i64 d2) (List.Mem.tail _ (List.Mem.tail _ (List.Mem.tail _ (List.Mem.tail _ (List.Mem.tail _ (List.Mem.tail _ (List.Mem.tail _ (List.Mem.tail _ (List.Mem.tail _ (List.Mem.tail _ (List.Mem.head _)))))))))))
  have ly := H.lt (w5.heap.size) 0 (.int .i64 y2) (List.Mem.tail _ (List.Mem.tail _ (List.Mem.tail _ (List.Mem.tail _ (List.Mem.tail _ (List.Mem.tail _ (List.Mem.tail _ (List.Mem.tail _ (List.Mem.head _)))))))))
  have co0 := H.cell (w6.heap.size) 0 (.int .i64 0) (List.Mem.tail _ (List.Mem.tail _ (List.Mem.tail _ (List.Mem.tail _ (List.Mem.head _)))))
  have co1 := H.cell (w6.heap.size) 1 (.int .i64 1) (List.Mem.tail _ (List.Mem.tail _ (List.Mem.tail _ (List.Mem.tail _ (List.Mem.tail _ (List.Mem.head _))))))
  have lo := H.lt (w6.heap.size) 0 (.int .i64 0) (List.Mem.tail _ (List.Mem.tail _ (List.Mem.tail _ (List.Mem.tail _ (List.Mem.head _)))))
  have cz0 := H.cell (w7.heap.size) 0 (.int .i64 0) (List.Mem.head _)
  have cz1 := H.cell (w7.heap.size) 1 (.int .i64 1) (List.Mem.tail _ (List.Mem.head _))
  have lz := H.lt (w7.heap.size) 0 (.int .i64 0) (List.Mem.head _)
  go_wp2_with fail
  clear cx0 cx1 cx2 lx cy0 cy1 cy2 ly co0 co1 lo cz0 cz1 lz
  replace H := ((H.pair (w8.heap.size) (.int .i64 0) (.int .i64 1) 26 rfl).pair (w8.heap.size + 1) (.int .i64 0) (.int .i64 1) 26 (by simp))
  go_ret
  exact ⟨rfl, H.old⟩

set_option maxHeartbeats 4000000 in
set_option maxRecDepth 100000 in
theorem tagree_2 (K : Ways) (a b k y1 m1 d1 y2 m2 d2 : Int) (t : Bool) (w : World) (hL : Lens w) (h1 : 1 ≤ a ∧ a ≤ 3652059) (h2 : 1 ≤ b ∧ b ≤ 3652059) (h : ¬ a > b) (hx : DayIs a y1 m1 d1 0) (hy : DayIs b y2 m2 d2 0) (z1 : PartIs eX a a 0 1 0) (z2 : PartIs (uX t) a a 0 1 0) (z3 : PartIs (iX (decide (a = k))) a a 0 1 0) (n1 : ¬ d1 > 30) (n2 : d2 > 30) :
    Calls Tryd.prog 6 #[.agg #[.int .i64 a, .int .i64 b, .bool t, .int .i64 k]] w fun e w' => e = .returned (.bool true) ∧ Below w.heap.size w w' := by
  have H := (Held.start w).add (f := lensF) hL
  clear hL
  have D1 : Hid (decide (1 ≤ a ∧ a ≤ 3652059) = true) := Lib.hid (by rw [decide_eq_true_eq]; exact h1)
  have D2 : Hid (decide (1 ≤ b ∧ b ≤ 3652059) = true) := Lib.hid (by rw [decide_eq_true_eq]; exact h2)
  have O1 := Lib.hid hx
  have O2 := Lib.hid hy
  have Z1 := Lib.hid z1
  have Z2 := Lib.hid z2
  have Z3 := Lib.hid z3
  clear hx hy z1 z2 z3 h1 h2
  go_enter Tryd.func6, Tryd.ntmps6
  go_wp2_with fail
  replace H := (H.alloc (.cells #[.int .i64 a, .int .i64 b, .bool t, .int .i64 k] 54))
  (with_reducible refine (tshown_any K _ (H.lens (List.Mem.head _))).mono ?_)
  rintro e w1 ⟨rfl, hb⟩
  replace H := H.below hb
  clear hb
  go_wp2_with fail
  (with_reducible refine (rday_is a true _ D1.out).mono ?_)
  rintro e w2 ⟨rfl, hb⟩
  replace H := H.below hb
  clear hb
  go_wp2_with fail
  (with_reducible refine (rday_is b true _ D2.out).mono ?_)
  rintro e w3 ⟨rfl, hb⟩
  replace H := H.below hb
  clear hb
  go_wp2_with fail
  (with_reducible refine (rof_any a y1 m1 d1 0 _ O1.out).mono ?_)
  rintro e w4 ⟨rfl, hb⟩
  replace H := H.below hb
  clear hb
  go_wp2_with fail
  replace H := (H.triple (w4.heap.size) (.int .i64 y1) (.int .i64 m1) (.int .i64 d1) 41 rfl)
  (with_reducible refine (rof_any b y2 m2 d2 0 _ O2.out).mono ?_)
  rintro e w5 ⟨rfl, hb⟩
  replace H := H.below hb
  clear hb
  have cx0 := H.cell (w4.heap.size) 0 (.int .i64 y1) (List.Mem.head _)
  have cx1 := H.cell (w4.heap.size) 1 (.int .i64 m1) (List.Mem.tail _ (List.Mem.head _))
  have cx2 := H.cell (w4.heap.size) 2 (.int .i64 d1) (List.Mem.tail _ (List.Mem.tail _ (List.Mem.head _)))
  have lx := H.lt (w4.heap.size) 0 (.int .i64 y1) (List.Mem.head _)
  go_wp2_with fail
  clear cx0 cx1 cx2 lx
  replace H := (H.triple (w5.heap.size) (.int .i64 y2) (.int .i64 m2) (.int .i64 d2) 41 rfl)
  (with_reducible refine (K.e a a 0 1 0 _ (H.lens (List.Mem.tail _ (List.Mem.tail _ (List.Mem.tail _ (List.Mem.tail _ (List.Mem.tail _ (List.Mem.tail _ (List.Mem.tail _ (List.Mem.tail _ (List.Mem.tail _ (List.Mem.tail _ (List.Mem.tail _ (List.Mem.tail _ (List.Mem.head _)))))))))))))) Z1.out).mono ?_)
  rintro e w6 ⟨rfl, hb⟩
  replace H := H.below hb
  clear hb
  have cx0 := H.cell (w4.heap.size) 0 (.int .i64 y1) (List.Mem.tail _ (List.Mem.tail _ (List.Mem.tail _ (List.Mem.tail _ (List.Mem.tail _ (List.Mem.tail _ (List.Mem.head _)))))))
  have cx1 := H.cell (w4.heap.size) 1 (.int .i64 m1) (List.Mem.tail _ (List.Mem.tail _ (List.Mem.tail _ (List.Mem.tail _ (List.Mem.tail _ (List.Mem.tail _ (List.Mem.tail _ (List.Mem.head _))))))))
  have cx2 := H.cell (w4.heap.size) 2 (.int .i64 d1) (List.Mem.tail _ (List.Mem.tail _ (List.Mem.tail _ (List.Mem.tail _ (List.Mem.tail _ (List.Mem.tail _ (List.Mem.tail _ (List.Mem.tail _ (List.Mem.head _)))))))))
  have lx := H.lt (w4.heap.size) 0 (.int .i64 y1) (List.Mem.tail _ (List.Mem.tail _ (List.Mem.tail _ (List.Mem.tail _ (List.Mem.tail _ (List.Mem.tail _ (List.Mem.head _)))))))
  have cy0 := H.cell (w5.heap.size) 0 (.int .i64 y2) (List.Mem.head _)
  have cy1 := H.cell (w5.heap.size) 1 (.int .i64 m2) (List.Mem.tail _ (List.Mem.head _))
  have cy2 := H.cell (w5.heap.size) 2 (.int .i64 d2) (List.Mem.tail _ (List.Mem.tail _ (List.Mem.head _)))
  have ly := H.lt (w5.heap.size) 0 (.int .i64 y2) (List.Mem.head _)
  go_wp2_with fail
  clear cx0 cx1 cx2 lx cy0 cy1 cy2 ly
  replace H := (H.pair (w6.heap.size) (.int .i64 0) (.int .i64 1) 26 rfl)
  (with_reducible refine (K.us a a 0 1 0 t _ (H.lens (List.Mem.tail _ (List.Mem.tail _ (List.Mem.tail _ (List.Mem.tail _ (List.Mem.tail _ (List.Mem.tail _ (List.Mem.tail _ (List.Mem.tail _ (List.Mem.tail _ (List.Mem.tail _ (List.Mem.tail _ (List.Mem.tail _ (List.Mem.tail _ (List.Mem.tail _ (List.Mem.tail _ (List.Mem.tail _ (List.Mem.head _)))))))))))))))))) Z2.out).mono ?_)
  rintro e w7 ⟨rfl, hb⟩
  replace H := H.below hb
  clear hb
  have cx0 := H.cell (w4.heap.size) 0 (.int .i64 y1) (List.Mem.tail _ (List.Mem.tail _ (List.Mem.tail _ (List.Mem.tail _ (List.Mem.tail _ (List.Mem.tail _ (List.Mem.tail _ (List.Mem.tail _ (List.Mem.tail _ (List.Mem.tail _ (List.Mem.head _)))))))))))
  have cx1 := H.cell (w4.heap.size) 1 (.int .i64 m1) (List.Mem.tail _ (List.Mem.tail _ (List.Mem.tail _ (List.Mem.tail _ (List.Mem.tail _ (List.Mem.tail _ (List.Mem.tail _ (List.Mem.tail _ (List.Mem.tail _ (List.Mem.tail _ (List.Mem.tail _ (List.Mem.head _))))))))))))
  have cx2 := H.cell (w4.heap.size) 2 (.int .i64 d1) (List.Mem.tail _ (List.Mem.tail _ (List.Mem.tail _ (List.Mem.tail _ (List.Mem.tail _ (List.Mem.tail _ (List.Mem.tail _ (List.Mem.tail _ (List.Mem.tail _ (List.Mem.tail _ (List.Mem.tail _ (List.Mem.tail _ (List.Mem.head _)))))))))))))
  have lx := H.lt (w4.heap.size) 0 (.int .i64 y1) (List.Mem.tail _ (List.Mem.tail _ (List.Mem.tail _ (List.Mem.tail _ (List.Mem.tail _ (List.Mem.tail _ (List.Mem.tail _ (List.Mem.tail _ (List.Mem.tail _ (List.Mem.tail _ (List.Mem.head _)))))))))))
  have cy0 := H.cell (w5.heap.size) 0 (.int .i64 y2) (List.Mem.tail _ (List.Mem.tail _ (List.Mem.tail _ (List.Mem.tail _ (List.Mem.head _)))))
  have cy1 := H.cell (w5.heap.size) 1 (.int .i64 m2) (List.Mem.tail _ (List.Mem.tail _ (List.Mem.tail _ (List.Mem.tail _ (List.Mem.tail _ (List.Mem.head _))))))
  have cy2 := H.cell (w5.heap.size) 2 (.int .i64 d2) (List.Mem.tail _ (List.Mem.tail _ (List.Mem.tail _ (List.Mem.tail _ (List.Mem.tail _ (List.Mem.tail _ (List.Mem.head _)))))))
  have ly := H.lt (w5.heap.size) 0 (.int .i64 y2) (List.Mem.tail _ (List.Mem.tail _ (List.Mem.tail _ (List.Mem.tail _ (List.Mem.head _)))))
  have co0 := H.cell (w6.heap.size) 0 (.int .i64 0) (List.Mem.head _)
  have co1 := H.cell (w6.heap.size) 1 (.int .i64 1) (List.Mem.tail _ (List.Mem.head _))
  have lo := H.lt (w6.heap.size) 0 (.int .i64 0) (List.Mem.head _)
  go_wp2_with fail
  clear cx0 cx1 cx2 lx cy0 cy1 cy2 ly co0 co1 lo
  replace H := (H.pair (w7.heap.size) (.int .i64 0) (.int .i64 1) 26 rfl)
  (with_reducible refine (K.isda a a k 0 1 0 _ (H.lens (List.Mem.tail _ (List.Mem.tail _ (List.Mem.tail _ (List.Mem.tail _ (List.Mem.tail _ (List.Mem.tail _ (List.Mem.tail _ (List.Mem.tail _ (List.Mem.tail _ (List.Mem.tail _ (List.Mem.tail _ (List.Mem.tail _ (List.Mem.tail _ (List.Mem.tail _ (List.Mem.tail _ (List.Mem.tail _ (List.Mem.tail _ (List.Mem.tail _ (List.Mem.tail _ (List.Mem.tail _ (List.Mem.head _)))))))))))))))))))))) Z3.out).mono ?_)
  rintro e w8 ⟨rfl, hb⟩
  replace H := H.below hb
  clear hb
  have cx0 := H.cell (w4.heap.size) 0 (.int .i64 y1) (List.Mem.tail _ (List.Mem.tail _ (List.Mem.tail _ (List.Mem.tail _ (List.Mem.tail _ (List.Mem.tail _ (List.Mem.tail _ (List.Mem.tail _ (List.Mem.tail _ (List.Mem.tail _ (List.Mem.tail _ (List.Mem.tail _ (List.Mem.tail _ (List.Mem.tail _ (List.Mem.head _)))))))))))))))
  have cx1 := H.cell (w4.heap.size) 1 (.int .i64 m1) (List.Mem.tail _ (List.Mem.tail _ (List.Mem.tail _ (List.Mem.tail _ (List.Mem.tail _ (List.Mem.tail _ (List.Mem.tail _ (List.Mem.tail _ (List.Mem.tail _ (List.Mem.tail _ (List.Mem.tail _ (List.Mem.tail _ (List.Mem.tail _ (List.Mem.tail _ (List.Mem.tail _ (List.Mem.head _))))))))))))))))
  have cx2 := H.cell (w4.heap.size) 2 (.int .i64 d1) (List.Mem.tail _ (List.Mem.tail _ (List.Mem.tail _ (List.Mem.tail _ (List.Mem.tail _ (List.Mem.tail _ (List.Mem.tail _ (List.Mem.tail _ (List.Mem.tail _ (List.Mem.tail _ (List.Mem.tail _ (List.Mem.tail _ (List.Mem.tail _ (List.Mem.tail _ (List.Mem.tail _ (List.Mem.tail _ (List.Mem.head _)))))))))))))))))
  have lx := H.lt (w4.heap.size) 0 (.int .i64 y1) (List.Mem.tail _ (List.Mem.tail _ (List.Mem.tail _ (List.Mem.tail _ (List.Mem.tail _ (List.Mem.tail _ (List.Mem.tail _ (List.Mem.tail _ (List.Mem.tail _ (List.Mem.tail _ (List.Mem.tail _ (List.Mem.tail _ (List.Mem.tail _ (List.Mem.tail _ (List.Mem.head _)))))))))))))))
  have cy0 := H.cell (w5.heap.size) 0 (.int .i64 y2) (List.Mem.tail _ (List.Mem.tail _ (List.Mem.tail _ (List.Mem.tail _ (List.Mem.tail _ (List.Mem.tail _ (List.Mem.tail _ (List.Mem.tail _ (List.Mem.head _)))))))))
  have cy1 := H.cell (w5.heap.size) 1 (.int .i64 m2) (List.Mem.tail _ (List.Mem.tail _ (List.Mem.tail _ (List.Mem.tail _ (List.Mem.tail _ (List.Mem.tail _ (List.Mem.tail _ (List.Mem.tail _ (List.Mem.tail _ (List.Mem.head _))))))))))
  have cy2 := H.cell (w5.heap.size) 2 (.int .i64 d2) (List.Mem.tail _ (List.Mem.tail _ (List.Mem.tail _ (List.Mem.tail _ (List.Mem.tail _ (List.Mem.tail _ (List.Mem.tail _ (List.Mem.tail _ (List.Mem.tail _ (List.Mem.tail _ (List.Mem.head _)))))))))))
  have ly := H.lt (w5.heap.size) 0 (.int .i64 y2) (List.Mem.tail _ (List.Mem.tail _ (List.Mem.tail _ (List.Mem.tail _ (List.Mem.tail _ (List.Mem.tail _ (List.Mem.tail _ (List.Mem.tail _ (List.Mem.head _)))))))))
  have co0 := H.cell (w6.heap.size) 0 (.int .i64 0) (List.Mem.tail _ (List.Mem.tail _ (List.Mem.tail _ (List.Mem.tail _ (List.Mem.head _)))))
  have co1 := H.cell (w6.heap.size) 1 (.int .i64 1) (List.Mem.tail _ (List.Mem.tail _ (List.Mem.tail _ (List.Mem.tail _ (List.Mem.tail _ (List.Mem.head _))))))
  have lo := H.lt (w6.heap.size) 0 (.int .i64 0) (List.Mem.tail _ (List.Mem.tail _ (List.Mem.tail _ (List.Mem.tail _ (List.Mem.head _)))))
  have cz0 := H.cell (w7.heap.size) 0 (.int .i64 0) (List.Mem.head _)
  have cz1 := H.cell (w7.heap.size) 1 (.int .i64 1) (List.Mem.tail _ (List.Mem.head _))
  have lz := H.lt (w7.heap.size) 0 (.int .i64 0) (List.Mem.head _)
  go_wp2_with fail
  clear cx0 cx1 cx2 lx cy0 cy1 cy2 ly co0 co1 lo cz0 cz1 lz
  replace H := ((H.pair (w8.heap.size) (.int .i64 0) (.int .i64 1) 26 rfl).pair (w8.heap.size + 1) (.int .i64 0) (.int .i64 1) 26 (by simp))
  go_ret
  exact ⟨rfl, H.old⟩

set_option maxHeartbeats 4000000 in
set_option maxRecDepth 100000 in
theorem tagree_3 (K : Ways) (a b k y1 m1 d1 y2 m2 d2 : Int) (t : Bool) (w : World) (hL : Lens w) (h1 : 1 ≤ a ∧ a ≤ 3652059) (h2 : 1 ≤ b ∧ b ≤ 3652059) (h : ¬ a > b) (hx : DayIs a y1 m1 d1 0) (hy : DayIs b y2 m2 d2 0) (z1 : PartIs eX a a 0 1 0) (z2 : PartIs (uX t) a a 0 1 0) (z3 : PartIs (iX (decide (a = k))) a a 0 1 0) (s1 : ¬ d1 > 30) (s2 : ¬ d2 > 30) (n1 : m1 = 2) :
    Calls Tryd.prog 6 #[.agg #[.int .i64 a, .int .i64 b, .bool t, .int .i64 k]] w fun e w' => e = .returned (.bool true) ∧ Below w.heap.size w w' := by
  have H := (Held.start w).add (f := lensF) hL
  clear hL
  have D1 : Hid (decide (1 ≤ a ∧ a ≤ 3652059) = true) := Lib.hid (by rw [decide_eq_true_eq]; exact h1)
  have D2 : Hid (decide (1 ≤ b ∧ b ≤ 3652059) = true) := Lib.hid (by rw [decide_eq_true_eq]; exact h2)
  have O1 := Lib.hid hx
  have O2 := Lib.hid hy
  have Z1 := Lib.hid z1
  have Z2 := Lib.hid z2
  have Z3 := Lib.hid z3
  clear hx hy z1 z2 z3 h1 h2
  have e1 : (m1 == 2) = true := by simpa using n1
  clear n1
  go_enter Tryd.func6, Tryd.ntmps6
  go_wp2_with fail
  replace H := (H.alloc (.cells #[.int .i64 a, .int .i64 b, .bool t, .int .i64 k] 54))
  (with_reducible refine (tshown_any K _ (H.lens (List.Mem.head _))).mono ?_)
  rintro e w1 ⟨rfl, hb⟩
  replace H := H.below hb
  clear hb
  go_wp2_with fail
  (with_reducible refine (rday_is a true _ D1.out).mono ?_)
  rintro e w2 ⟨rfl, hb⟩
  replace H := H.below hb
  clear hb
  go_wp2_with fail
  (with_reducible refine (rday_is b true _ D2.out).mono ?_)
  rintro e w3 ⟨rfl, hb⟩
  replace H := H.below hb
  clear hb
  go_wp2_with fail
  (with_reducible refine (rof_any a y1 m1 d1 0 _ O1.out).mono ?_)
  rintro e w4 ⟨rfl, hb⟩
  replace H := H.below hb
  clear hb
  go_wp2_with fail
  replace H := (H.triple (w4.heap.size) (.int .i64 y1) (.int .i64 m1) (.int .i64 d1) 41 rfl)
  (with_reducible refine (rof_any b y2 m2 d2 0 _ O2.out).mono ?_)
  rintro e w5 ⟨rfl, hb⟩
  replace H := H.below hb
  clear hb
  have cx0 := H.cell (w4.heap.size) 0 (.int .i64 y1) (List.Mem.head _)
  have cx1 := H.cell (w4.heap.size) 1 (.int .i64 m1) (List.Mem.tail _ (List.Mem.head _))
  have cx2 := H.cell (w4.heap.size) 2 (.int .i64 d1) (List.Mem.tail _ (List.Mem.tail _ (List.Mem.head _)))
  have lx := H.lt (w4.heap.size) 0 (.int .i64 y1) (List.Mem.head _)
  go_wp2_with fail
  clear cx0 cx1 cx2 lx
  replace H := (H.triple (w5.heap.size) (.int .i64 y2) (.int .i64 m2) (.int .i64 d2) 41 rfl)
  (with_reducible refine (K.e a a 0 1 0 _ (H.lens (List.Mem.tail _ (List.Mem.tail _ (List.Mem.tail _ (List.Mem.tail _ (List.Mem.tail _ (List.Mem.tail _ (List.Mem.tail _ (List.Mem.tail _ (List.Mem.tail _ (List.Mem.tail _ (List.Mem.tail _ (List.Mem.tail _ (List.Mem.head _)))))))))))))) Z1.out).mono ?_)
  rintro e w6 ⟨rfl, hb⟩
  replace H := H.below hb
  clear hb
  have cx0 := H.cell (w4.heap.size) 0 (.int .i64 y1) (List.Mem.tail _ (List.Mem.tail _ (List.Mem.tail _ (List.Mem.tail _ (List.Mem.tail _ (List.Mem.tail _ (List.Mem.head _)))))))
  have cx1 := H.cell (w4.heap.size) 1 (.int .i64 m1) (List.Mem.tail _ (List.Mem.tail _ (List.Mem.tail _ (List.Mem.tail _ (List.Mem.tail _ (List.Mem.tail _ (List.Mem.tail _ (List.Mem.head _))))))))
  have cx2 := H.cell (w4.heap.size) 2 (.int .i64 d1) (List.Mem.tail _ (List.Mem.tail _ (List.Mem.tail _ (List.Mem.tail _ (List.Mem.tail _ (List.Mem.tail _ (List.Mem.tail _ (List.Mem.tail _ (List.Mem.head _)))))))))
  have lx := H.lt (w4.heap.size) 0 (.int .i64 y1) (List.Mem.tail _ (List.Mem.tail _ (List.Mem.tail _ (List.Mem.tail _ (List.Mem.tail _ (List.Mem.tail _ (List.Mem.head _)))))))
  have cy0 := H.cell (w5.heap.size) 0 (.int .i64 y2) (List.Mem.head _)
  have cy1 := H.cell (w5.heap.size) 1 (.int .i64 m2) (List.Mem.tail _ (List.Mem.head _))
  have cy2 := H.cell (w5.heap.size) 2 (.int .i64 d2) (List.Mem.tail _ (List.Mem.tail _ (List.Mem.head _)))
  have ly := H.lt (w5.heap.size) 0 (.int .i64 y2) (List.Mem.head _)
  go_wp2_with fail
  clear cx0 cx1 cx2 lx cy0 cy1 cy2 ly
  replace H := (H.pair (w6.heap.size) (.int .i64 0) (.int .i64 1) 26 rfl)
  (with_reducible refine (K.us a a 0 1 0 t _ (H.lens (List.Mem.tail _ (List.Mem.tail _ (List.Mem.tail _ (List.Mem.tail _ (List.Mem.tail _ (List.Mem.tail _ (List.Mem.tail _ (List.Mem.tail _ (List.Mem.tail _ (List.Mem.tail _ (List.Mem.tail _ (List.Mem.tail _ (List.Mem.tail _ (List.Mem.tail _ (List.Mem.tail _ (List.Mem.tail _ (List.Mem.head _)))))))))))))))))) Z2.out).mono ?_)
  rintro e w7 ⟨rfl, hb⟩
  replace H := H.below hb
  clear hb
  have cx0 := H.cell (w4.heap.size) 0 (.int .i64 y1) (List.Mem.tail _ (List.Mem.tail _ (List.Mem.tail _ (List.Mem.tail _ (List.Mem.tail _ (List.Mem.tail _ (List.Mem.tail _ (List.Mem.tail _ (List.Mem.tail _ (List.Mem.tail _ (List.Mem.head _)))))))))))
  have cx1 := H.cell (w4.heap.size) 1 (.int .i64 m1) (List.Mem.tail _ (List.Mem.tail _ (List.Mem.tail _ (List.Mem.tail _ (List.Mem.tail _ (List.Mem.tail _ (List.Mem.tail _ (List.Mem.tail _ (List.Mem.tail _ (List.Mem.tail _ (List.Mem.tail _ (List.Mem.head _))))))))))))
  have cx2 := H.cell (w4.heap.size) 2 (.int .i64 d1) (List.Mem.tail _ (List.Mem.tail _ (List.Mem.tail _ (List.Mem.tail _ (List.Mem.tail _ (List.Mem.tail _ (List.Mem.tail _ (List.Mem.tail _ (List.Mem.tail _ (List.Mem.tail _ (List.Mem.tail _ (List.Mem.tail _ (List.Mem.head _)))))))))))))
  have lx := H.lt (w4.heap.size) 0 (.int .i64 y1) (List.Mem.tail _ (List.Mem.tail _ (List.Mem.tail _ (List.Mem.tail _ (List.Mem.tail _ (List.Mem.tail _ (List.Mem.tail _ (List.Mem.tail _ (List.Mem.tail _ (List.Mem.tail _ (List.Mem.head _)))))))))))
  have cy0 := H.cell (w5.heap.size) 0 (.int .i64 y2) (List.Mem.tail _ (List.Mem.tail _ (List.Mem.tail _ (List.Mem.tail _ (List.Mem.head _)))))
  have cy1 := H.cell (w5.heap.size) 1 (.int .i64 m2) (List.Mem.tail _ (List.Mem.tail _ (List.Mem.tail _ (List.Mem.tail _ (List.Mem.tail _ (List.Mem.head _))))))
  have cy2 := H.cell (w5.heap.size) 2 (.int .i64 d2) (List.Mem.tail _ (List.Mem.tail _ (List.Mem.tail _ (List.Mem.tail _ (List.Mem.tail _ (List.Mem.tail _ (List.Mem.head _)))))))
  have ly := H.lt (w5.heap.size) 0 (.int .i64 y2) (List.Mem.tail _ (List.Mem.tail _ (List.Mem.tail _ (List.Mem.tail _ (List.Mem.head _)))))
  have co0 := H.cell (w6.heap.size) 0 (.int .i64 0) (List.Mem.head _)
  have co1 := H.cell (w6.heap.size) 1 (.int .i64 1) (List.Mem.tail _ (List.Mem.head _))
  have lo := H.lt (w6.heap.size) 0 (.int .i64 0) (List.Mem.head _)
  go_wp2_with fail
  clear cx0 cx1 cx2 lx cy0 cy1 cy2 ly co0 co1 lo
  replace H := (H.pair (w7.heap.size) (.int .i64 0) (.int .i64 1) 26 rfl)
  (with_reducible refine (K.isda a a k 0 1 0 _ (H.lens (List.Mem.tail _ (List.Mem.tail _ (List.Mem.tail _ (List.Mem.tail _ (List.Mem.tail _ (List.Mem.tail _ (List.Mem.tail _ (List.Mem.tail _ (List.Mem.tail _ (List.Mem.tail _ (List.Mem.tail _ (List.Mem.tail _ (List.Mem.tail _ (List.Mem.tail _ (List.Mem.tail _ (List.Mem.tail _ (List.Mem.tail _ (List.Mem.tail _ (List.Mem.tail _ (List.Mem.tail _ (List.Mem.head _)))))))))))))))))))))) Z3.out).mono ?_)
  rintro e w8 ⟨rfl, hb⟩
  replace H := H.below hb
  clear hb
  have cx0 := H.cell (w4.heap.size) 0 (.int .i64 y1) (List.Mem.tail _ (List.Mem.tail _ (List.Mem.tail _ (List.Mem.tail _ (List.Mem.tail _ (List.Mem.tail _ (List.Mem.tail _ (List.Mem.tail _ (List.Mem.tail _ (List.Mem.tail _ (List.Mem.tail _ (List.Mem.tail _ (List.Mem.tail _ (List.Mem.tail _ (List.Mem.head _)))))))))))))))
  have cx1 := H.cell (w4.heap.size) 1 (.int .i64 m1) (List.Mem.tail _ (List.Mem.tail _ (List.Mem.tail _ (List.Mem.tail _ (List.Mem.tail _ (List.Mem.tail _ (List.Mem.tail _ (List.Mem.tail _ (List.Mem.tail _ (List.Mem.tail _ (List.Mem.tail _ (List.Mem.tail _ (List.Mem.tail _ (List.Mem.tail _ (List.Mem.tail _ (List.Mem.head _))))))))))))))))
  have cx2 := H.cell (w4.heap.size) 2 (.int .i64 d1) (List.Mem.tail _ (List.Mem.tail _ (List.Mem.tail _ (List.Mem.tail _ (List.Mem.tail _ (List.Mem.tail _ (List.Mem.tail _ (List.Mem.tail _ (List.Mem.tail _ (List.Mem.tail _ (List.Mem.tail _ (List.Mem.tail _ (List.Mem.tail _ (List.Mem.tail _ (List.Mem.tail _ (List.Mem.tail _ (List.Mem.head _)))))))))))))))))
  have lx := H.lt (w4.heap.size) 0 (.int .i64 y1) (List.Mem.tail _ (List.Mem.tail _ (List.Mem.tail _ (List.Mem.tail _ (List.Mem.tail _ (List.Mem.tail _ (List.Mem.tail _ (List.Mem.tail _ (List.Mem.tail _ (List.Mem.tail _ (List.Mem.tail _ (List.Mem.tail _ (List.Mem.tail _ (List.Mem.tail _ (List.Mem.head _)))))))))))))))
  have cy0 := H.cell (w5.heap.size) 0 (.int .i64 y2) (List.Mem.tail _ (List.Mem.tail _ (List.Mem.tail _ (List.Mem.tail _ (List.Mem.tail _ (List.Mem.tail _ (List.Mem.tail _ (List.Mem.tail _ (List.Mem.head _)))))))))
  have cy1 := H.cell (w5.heap.size) 1 (.int .i64 m2) (List.Mem.tail _ (List.Mem.tail _ (List.Mem.tail _ (List.Mem.tail _ (List.Mem.tail _ (List.Mem.tail _ (List.Mem.tail _ (List.Mem.tail _ (List.Mem.tail _ (List.Mem.head _))))))))))
  have cy2 := H.cell (w5.heap.size) 2 (.int .i64 d2) (List.Mem.tail _ (List.Mem.tail _ (List.Mem.tail _ (List.Mem.tail _ (List.Mem.tail _ (List.Mem.tail _ (List.Mem.tail _ (List.Mem.tail _ (List.Mem.tail _ (List.Mem.tail _ (List.Mem.head _)))))))))))
  have ly := H.lt (w5.heap.size) 0 (.int .i64 y2) (List.Mem.tail _ (List.Mem.tail _ (List.Mem.tail _ (List.Mem.tail _ (List.Mem.tail _ (List.Mem.tail _ (List.Mem.tail _ (List.Mem.tail _ (List.Mem.head _)))))))))
  have co0 := H.cell (w6.heap.size) 0 (.int .i64 0) (List.Mem.tail _ (List.Mem.tail _ (List.Mem.tail _ (List.Mem.tail _ (List.Mem.head _)))))
  have co1 := H.cell (w6.heap.size) 1 (.int .i64 1) (List.Mem.tail _ (List.Mem.tail _ (List.Mem.tail _ (List.Mem.tail _ (List.Mem.tail _ (List.Mem.head _))))))
  have lo := H.lt (w6.heap.size) 0 (.int .i64 0) (List.Mem.tail _ (List.Mem.tail _ (List.Mem.tail _ (List.Mem.tail _ (List.Mem.head _)))))
  have cz0 := H.cell (w7.heap.size) 0 (.int .i64 0) (List.Mem.head _)
  have cz1 := H.cell (w7.heap.size) 1 (.int .i64 1) (List.Mem.tail _ (List.Mem.head _))
  have lz := H.lt (w7.heap.size) 0 (.int .i64 0) (List.Mem.head _)
  go_wp2_with fail
  clear cx0 cx1 cx2 lx cy0 cy1 cy2 ly co0 co1 lo cz0 cz1 lz
  replace H := ((H.pair (w8.heap.size) (.int .i64 0) (.int .i64 1) 26 rfl).pair (w8.heap.size + 1) (.int .i64 0) (.int .i64 1) 26 (by simp))
  go_ret
  exact ⟨rfl, H.old⟩

set_option maxHeartbeats 4000000 in
set_option maxRecDepth 100000 in
theorem tagree_4 (K : Ways) (a b k y1 m1 d1 y2 m2 d2 : Int) (t : Bool) (w : World) (hL : Lens w) (h1 : 1 ≤ a ∧ a ≤ 3652059) (h2 : 1 ≤ b ∧ b ≤ 3652059) (h : ¬ a > b) (hx : DayIs a y1 m1 d1 0) (hy : DayIs b y2 m2 d2 0) (z1 : PartIs eX a a 0 1 0) (z2 : PartIs (uX t) a a 0 1 0) (z3 : PartIs (iX (decide (a = k))) a a 0 1 0) (s1 : ¬ d1 > 30) (s2 : ¬ d2 > 30) (n1 : m1 ≠ 2) (n2 : m2 = 2) :
    Calls Tryd.prog 6 #[.agg #[.int .i64 a, .int .i64 b, .bool t, .int .i64 k]] w fun e w' => e = .returned (.bool true) ∧ Below w.heap.size w w' := by
  have H := (Held.start w).add (f := lensF) hL
  clear hL
  have D1 : Hid (decide (1 ≤ a ∧ a ≤ 3652059) = true) := Lib.hid (by rw [decide_eq_true_eq]; exact h1)
  have D2 : Hid (decide (1 ≤ b ∧ b ≤ 3652059) = true) := Lib.hid (by rw [decide_eq_true_eq]; exact h2)
  have O1 := Lib.hid hx
  have O2 := Lib.hid hy
  have Z1 := Lib.hid z1
  have Z2 := Lib.hid z2
  have Z3 := Lib.hid z3
  clear hx hy z1 z2 z3 h1 h2
  have e1 : (m1 == 2) = false := by simpa using n1
  clear n1
  have e2 : (m2 == 2) = true := by simpa using n2
  clear n2
  go_enter Tryd.func6, Tryd.ntmps6
  go_wp2_with fail
  replace H := (H.alloc (.cells #[.int .i64 a, .int .i64 b, .bool t, .int .i64 k] 54))
  (with_reducible refine (tshown_any K _ (H.lens (List.Mem.head _))).mono ?_)
  rintro e w1 ⟨rfl, hb⟩
  replace H := H.below hb
  clear hb
  go_wp2_with fail
  (with_reducible refine (rday_is a true _ D1.out).mono ?_)
  rintro e w2 ⟨rfl, hb⟩
  replace H := H.below hb
  clear hb
  go_wp2_with fail
  (with_reducible refine (rday_is b true _ D2.out).mono ?_)
  rintro e w3 ⟨rfl, hb⟩
  replace H := H.below hb
  clear hb
  go_wp2_with fail
  (with_reducible refine (rof_any a y1 m1 d1 0 _ O1.out).mono ?_)
  rintro e w4 ⟨rfl, hb⟩
  replace H := H.below hb
  clear hb
  go_wp2_with fail
  replace H := (H.triple (w4.heap.size) (.int .i64 y1) (.int .i64 m1) (.int .i64 d1) 41 rfl)
  (with_reducible refine (rof_any b y2 m2 d2 0 _ O2.out).mono ?_)
  rintro e w5 ⟨rfl, hb⟩
  replace H := H.below hb
  clear hb
  have cx0 := H.cell (w4.heap.size) 0 (.int .i64 y1) (List.Mem.head _)
  have cx1 := H.cell (w4.heap.size) 1 (.int .i64 m1) (List.Mem.tail _ (List.Mem.head _))
  have cx2 := H.cell (w4.heap.size) 2 (.int .i64 d1) (List.Mem.tail _ (List.Mem.tail _ (List.Mem.head _)))
  have lx := H.lt (w4.heap.size) 0 (.int .i64 y1) (List.Mem.head _)
  go_wp2_with fail
  clear cx0 cx1 cx2 lx
  replace H := (H.triple (w5.heap.size) (.int .i64 y2) (.int .i64 m2) (.int .i64 d2) 41 rfl)
  (with_reducible refine (K.e a a 0 1 0 _ (H.lens (List.Mem.tail _ (List.Mem.tail _ (List.Mem.tail _ (List.Mem.tail _ (List.Mem.tail _ (List.Mem.tail _ (List.Mem.tail _ (List.Mem.tail _ (List.Mem.tail _ (List.Mem.tail _ (List.Mem.tail _ (List.Mem.tail _ (List.Mem.head _)))))))))))))) Z1.out).mono ?_)
  rintro e w6 ⟨rfl, hb⟩
  replace H := H.below hb
  clear hb
  have cx0 := H.cell (w4.heap.size) 0 (.int .i64 y1) (List.Mem.tail _ (List.Mem.tail _ (List.Mem.tail _ (List.Mem.tail _ (List.Mem.tail _ (List.Mem.tail _ (List.Mem.head _)))))))
  have cx1 := H.cell (w4.heap.size) 1 (.int .i64 m1) (List.Mem.tail _ (List.Mem.tail _ (List.Mem.tail _ (List.Mem.tail _ (List.Mem.tail _ (List.Mem.tail _ (List.Mem.tail _ (List.Mem.head _))))))))
  have cx2 := H.cell (w4.heap.size) 2 (.int .i64 d1) (List.Mem.tail _ (List.Mem.tail _ (List.Mem.tail _ (List.Mem.tail _ (List.Mem.tail _ (List.Mem.tail _ (List.Mem.tail _ (List.Mem.tail _ (List.Mem.head _)))))))))
  have lx := H.lt (w4.heap.size) 0 (.int .i64 y1) (List.Mem.tail _ (List.Mem.tail _ (List.Mem.tail _ (List.Mem.tail _ (List.Mem.tail _ (List.Mem.tail _ (List.Mem.head _)))))))
  have cy0 := H.cell (w5.heap.size) 0 (.int .i64 y2) (List.Mem.head _)
  have cy1 := H.cell (w5.heap.size) 1 (.int .i64 m2) (List.Mem.tail _ (List.Mem.head _))
  have cy2 := H.cell (w5.heap.size) 2 (.int .i64 d2) (List.Mem.tail _ (List.Mem.tail _ (List.Mem.head _)))
  have ly := H.lt (w5.heap.size) 0 (.int .i64 y2) (List.Mem.head _)
  go_wp2_with fail
  clear cx0 cx1 cx2 lx cy0 cy1 cy2 ly
  replace H := (H.pair (w6.heap.size) (.int .i64 0) (.int .i64 1) 26 rfl)
  (with_reducible refine (K.us a a 0 1 0 t _ (H.lens (List.Mem.tail _ (List.Mem.tail _ (List.Mem.tail _ (List.Mem.tail _ (List.Mem.tail _ (List.Mem.tail _ (List.Mem.tail _ (List.Mem.tail _ (List.Mem.tail _ (List.Mem.tail _ (List.Mem.tail _ (List.Mem.tail _ (List.Mem.tail _ (List.Mem.tail _ (List.Mem.tail _ (List.Mem.tail _ (List.Mem.head _)))))))))))))))))) Z2.out).mono ?_)
  rintro e w7 ⟨rfl, hb⟩
  replace H := H.below hb
  clear hb
  have cx0 := H.cell (w4.heap.size) 0 (.int .i64 y1) (List.Mem.tail _ (List.Mem.tail _ (List.Mem.tail _ (List.Mem.tail _ (List.Mem.tail _ (List.Mem.tail _ (List.Mem.tail _ (List.Mem.tail _ (List.Mem.tail _ (List.Mem.tail _ (List.Mem.head _)))))))))))
  have cx1 := H.cell (w4.heap.size) 1 (.int .i64 m1) (List.Mem.tail _ (List.Mem.tail _ (List.Mem.tail _ (List.Mem.tail _ (List.Mem.tail _ (List.Mem.tail _ (List.Mem.tail _ (List.Mem.tail _ (List.Mem.tail _ (List.Mem.tail _ (List.Mem.tail _ (List.Mem.head _))))))))))))
  have cx2 := H.cell (w4.heap.size) 2 (.int .i64 d1) (List.Mem.tail _ (List.Mem.tail _ (List.Mem.tail _ (List.Mem.tail _ (List.Mem.tail _ (List.Mem.tail _ (List.Mem.tail _ (List.Mem.tail _ (List.Mem.tail _ (List.Mem.tail _ (List.Mem.tail _ (List.Mem.tail _ (List.Mem.head _)))))))))))))
  have lx := H.lt (w4.heap.size) 0 (.int .i64 y1) (List.Mem.tail _ (List.Mem.tail _ (List.Mem.tail _ (List.Mem.tail _ (List.Mem.tail _ (List.Mem.tail _ (List.Mem.tail _ (List.Mem.tail _ (List.Mem.tail _ (List.Mem.tail _ (List.Mem.head _)))))))))))
  have cy0 := H.cell (w5.heap.size) 0 (.int .i64 y2) (List.Mem.tail _ (List.Mem.tail _ (List.Mem.tail _ (List.Mem.tail _ (List.Mem.head _)))))
  have cy1 := H.cell (w5.heap.size) 1 (.int .i64 m2) (List.Mem.tail _ (List.Mem.tail _ (List.Mem.tail _ (List.Mem.tail _ (List.Mem.tail _ (List.Mem.head _))))))
  have cy2 := H.cell (w5.heap.size) 2 (.int .i64 d2) (List.Mem.tail _ (List.Mem.tail _ (List.Mem.tail _ (List.Mem.tail _ (List.Mem.tail _ (List.Mem.tail _ (List.Mem.head _)))))))
  have ly := H.lt (w5.heap.size) 0 (.int .i64 y2) (List.Mem.tail _ (List.Mem.tail _ (List.Mem.tail _ (List.Mem.tail _ (List.Mem.head _)))))
  have co0 := H.cell (w6.heap.size) 0 (.int .i64 0) (List.Mem.head _)
  have co1 := H.cell (w6.heap.size) 1 (.int .i64 1) (List.Mem.tail _ (List.Mem.head _))
  have lo := H.lt (w6.heap.size) 0 (.int .i64 0) (List.Mem.head _)
  go_wp2_with fail
  clear cx0 cx1 cx2 lx cy0 cy1 cy2 ly co0 co1 lo
  replace H := (H.pair (w7.heap.size) (.int .i64 0) (.int .i64 1) 26 rfl)
  (with_reducible refine (K.isda a a k 0 1 0 _ (H.lens (List.Mem.tail _ (List.Mem.tail _ (List.Mem.tail _ (List.Mem.tail _ (List.Mem.tail _ (List.Mem.tail _ (List.Mem.tail _ (List.Mem.tail _ (List.Mem.tail _ (List.Mem.tail _ (List.Mem.tail _ (List.Mem.tail _ (List.Mem.tail _ (List.Mem.tail _ (List.Mem.tail _ (List.Mem.tail _ (List.Mem.tail _ (List.Mem.tail _ (List.Mem.tail _ (List.Mem.tail _ (List.Mem.head _)))))))))))))))))))))) Z3.out).mono ?_)
  rintro e w8 ⟨rfl, hb⟩
  replace H := H.below hb
  clear hb
  have cx0 := H.cell (w4.heap.size) 0 (.int .i64 y1) (List.Mem.tail _ (List.Mem.tail _ (List.Mem.tail _ (List.Mem.tail _ (List.Mem.tail _ (List.Mem.tail _ (List.Mem.tail _ (List.Mem.tail _ (List.Mem.tail _ (List.Mem.tail _ (List.Mem.tail _ (List.Mem.tail _ (List.Mem.tail _ (List.Mem.tail _ (List.Mem.head _)))))))))))))))
  have cx1 := H.cell (w4.heap.size) 1 (.int .i64 m1) (List.Mem.tail _ (List.Mem.tail _ (List.Mem.tail _ (List.Mem.tail _ (List.Mem.tail _ (List.Mem.tail _ (List.Mem.tail _ (List.Mem.tail _ (List.Mem.tail _ (List.Mem.tail _ (List.Mem.tail _ (List.Mem.tail _ (List.Mem.tail _ (List.Mem.tail _ (List.Mem.tail _ (List.Mem.head _))))))))))))))))
  have cx2 := H.cell (w4.heap.size) 2 (.int .i64 d1) (List.Mem.tail _ (List.Mem.tail _ (List.Mem.tail _ (List.Mem.tail _ (List.Mem.tail _ (List.Mem.tail _ (List.Mem.tail _ (List.Mem.tail _ (List.Mem.tail _ (List.Mem.tail _ (List.Mem.tail _ (List.Mem.tail _ (List.Mem.tail _ (List.Mem.tail _ (List.Mem.tail _ (List.Mem.tail _ (List.Mem.head _)))))))))))))))))
  have lx := H.lt (w4.heap.size) 0 (.int .i64 y1) (List.Mem.tail _ (List.Mem.tail _ (List.Mem.tail _ (List.Mem.tail _ (List.Mem.tail _ (List.Mem.tail _ (List.Mem.tail _ (List.Mem.tail _ (List.Mem.tail _ (List.Mem.tail _ (List.Mem.tail _ (List.Mem.tail _ (List.Mem.tail _ (List.Mem.tail _ (List.Mem.head _)))))))))))))))
  have cy0 := H.cell (w5.heap.size) 0 (.int .i64 y2) (List.Mem.tail _ (List.Mem.tail _ (List.Mem.tail _ (List.Mem.tail _ (List.Mem.tail _ (List.Mem.tail _ (List.Mem.tail _ (List.Mem.tail _ (List.Mem.head _)))))))))
  have cy1 := H.cell (w5.heap.size) 1 (.int .i64 m2) (List.Mem.tail _ (List.Mem.tail _ (List.Mem.tail _ (List.Mem.tail _ (List.Mem.tail _ (List.Mem.tail _ (List.Mem.tail _ (List.Mem.tail _ (List.Mem.tail _ (List.Mem.head _))))))))))
  have cy2 := H.cell (w5.heap.size) 2 (.int .i64 d2) (List.Mem.tail _ (List.Mem.tail _ (List.Mem.tail _ (List.Mem.tail _ (List.Mem.tail _ (List.Mem.tail _ (List.Mem.tail _ (List.Mem.tail _ (List.Mem.tail _ (List.Mem.tail _ (List.Mem.head _)))))))))))
  have ly := H.lt (w5.heap.size) 0 (.int .i64 y2) (List.Mem.tail _ (List.Mem.tail _ (List.Mem.tail _ (List.Mem.tail _ (List.Mem.tail _ (List.Mem.tail _ (List.Mem.tail _ (List.Mem.tail _ (List.Mem.head _)))))))))
  have co0 := H.cell (w6.heap.size) 0 (.int .i64 0) (List.Mem.tail _ (List.Mem.tail _ (List.Mem.tail _ (List.Mem.tail _ (List.Mem.head _)))))
  have co1 := H.cell (w6.heap.size) 1 (.int .i64 1) (List.Mem.tail _ (List.Mem.tail _ (List.Mem.tail _ (List.Mem.tail _ (List.Mem.tail _ (List.Mem.head _))))))
  have lo := H.lt (w6.heap.size) 0 (.int .i64 0) (List.Mem.tail _ (List.Mem.tail _ (List.Mem.tail _ (List.Mem.tail _ (List.Mem.head _)))))
  have cz0 := H.cell (w7.heap.size) 0 (.int .i64 0) (List.Mem.head _)
  have cz1 := H.cell (w7.heap.size) 1 (.int .i64 1) (List.Mem.tail _ (List.Mem.head _))
  have lz := H.lt (w7.heap.size) 0 (.int .i64 0) (List.Mem.head _)
  go_wp2_with fail
  clear cx0 cx1 cx2 lx cy0 cy1 cy2 ly co0 co1 lo cz0 cz1 lz
  replace H := ((H.pair (w8.heap.size) (.int .i64 0) (.int .i64 1) 26 rfl).pair (w8.heap.size + 1) (.int .i64 0) (.int .i64 1) 26 (by simp))
  go_ret
  exact ⟨rfl, H.old⟩

set_option maxHeartbeats 4000000 in
set_option maxRecDepth 100000 in
theorem tagree_5 (K : Ways) (a b k y1 m1 d1 y2 m2 d2 p q : Int) (t : Bool) (w : World) (hL : Lens w) (h1 : 1 ≤ a ∧ a ≤ 3652059) (h2 : 1 ≤ b ∧ b ≤ 3652059) (h : ¬ a > b) (hx : DayIs a y1 m1 d1 0) (hy : DayIs b y2 m2 d2 0) (z1 : PartIs eX a a 0 1 0) (z2 : PartIs (uX t) a a 0 1 0) (z3 : PartIs (iX (decide (a = k))) a a 0 1 0) (s1 : ¬ d1 > 30) (s2 : ¬ d2 > 30) (n1 : m1 ≠ 2) (n2 : m2 ≠ 2) (w1 : PartIs (uX t) a b p q 0) (w2 : PartIs eX a b p q 0) (w3 : PartIs (iX (decide (b = k))) a b p q 0) :
    Calls Tryd.prog 6 #[.agg #[.int .i64 a, .int .i64 b, .bool t, .int .i64 k]] w fun e w' => e = .returned (.bool true) ∧ Below w.heap.size w w' := by
  have H := (Held.start w).add (f := lensF) hL
  clear hL
  have D1 : Hid (decide (1 ≤ a ∧ a ≤ 3652059) = true) := Lib.hid (by rw [decide_eq_true_eq]; exact h1)
  have D2 : Hid (decide (1 ≤ b ∧ b ≤ 3652059) = true) := Lib.hid (by rw [decide_eq_true_eq]; exact h2)
  have O1 := Lib.hid hx
  have O2 := Lib.hid hy
  have Z1 := Lib.hid z1
  have Z2 := Lib.hid z2
  have Z3 := Lib.hid z3
  clear hx hy z1 z2 z3 h1 h2
  have W1 := Lib.hid w1
  have W2 := Lib.hid w2
  have W3 := Lib.hid w3
  clear w1 w2 w3
  have e1 : (m1 == 2) = false := by simpa using n1
  clear n1
  have e2 : (m2 == 2) = false := by simpa using n2
  clear n2
  go_enter Tryd.func6, Tryd.ntmps6
  go_wp2_with fail
  replace H := (H.alloc (.cells #[.int .i64 a, .int .i64 b, .bool t, .int .i64 k] 54))
  (with_reducible refine (tshown_any K _ (H.lens (List.Mem.head _))).mono ?_)
  rintro e w1 ⟨rfl, hb⟩
  replace H := H.below hb
  clear hb
  go_wp2_with fail
  (with_reducible refine (rday_is a true _ D1.out).mono ?_)
  rintro e w2 ⟨rfl, hb⟩
  replace H := H.below hb
  clear hb
  go_wp2_with fail
  (with_reducible refine (rday_is b true _ D2.out).mono ?_)
  rintro e w3 ⟨rfl, hb⟩
  replace H := H.below hb
  clear hb
  go_wp2_with fail
  (with_reducible refine (rof_any a y1 m1 d1 0 _ O1.out).mono ?_)
  rintro e w4 ⟨rfl, hb⟩
  replace H := H.below hb
  clear hb
  go_wp2_with fail
  replace H := (H.triple (w4.heap.size) (.int .i64 y1) (.int .i64 m1) (.int .i64 d1) 41 rfl)
  (with_reducible refine (rof_any b y2 m2 d2 0 _ O2.out).mono ?_)
  rintro e w5 ⟨rfl, hb⟩
  replace H := H.below hb
  clear hb
  have cx0 := H.cell (w4.heap.size) 0 (.int .i64 y1) (List.Mem.head _)
  have cx1 := H.cell (w4.heap.size) 1 (.int .i64 m1) (List.Mem.tail _ (List.Mem.head _))
  have cx2 := H.cell (w4.heap.size) 2 (.int .i64 d1) (List.Mem.tail _ (List.Mem.tail _ (List.Mem.head _)))
  have lx := H.lt (w4.heap.size) 0 (.int .i64 y1) (List.Mem.head _)
  go_wp2_with fail
  clear cx0 cx1 cx2 lx
  replace H := (H.triple (w5.heap.size) (.int .i64 y2) (.int .i64 m2) (.int .i64 d2) 41 rfl)
  (with_reducible refine (K.e a a 0 1 0 _ (H.lens (List.Mem.tail _ (List.Mem.tail _ (List.Mem.tail _ (List.Mem.tail _ (List.Mem.tail _ (List.Mem.tail _ (List.Mem.tail _ (List.Mem.tail _ (List.Mem.tail _ (List.Mem.tail _ (List.Mem.tail _ (List.Mem.tail _ (List.Mem.head _)))))))))))))) Z1.out).mono ?_)
  rintro e w6 ⟨rfl, hb⟩
  replace H := H.below hb
  clear hb
  have cx0 := H.cell (w4.heap.size) 0 (.int .i64 y1) (List.Mem.tail _ (List.Mem.tail _ (List.Mem.tail _ (List.Mem.tail _ (List.Mem.tail _ (List.Mem.tail _ (List.Mem.head _)))))))
  have cx1 := H.cell (w4.heap.size) 1 (.int .i64 m1) (List.Mem.tail _ (List.Mem.tail _ (List.Mem.tail _ (List.Mem.tail _ (List.Mem.tail _ (List.Mem.tail _ (List.Mem.tail _ (List.Mem.head _))))))))
  have cx2 := H.cell (w4.heap.size) 2 (.int .i64 d1) (List.Mem.tail _ (List.Mem.tail _ (List.Mem.tail _ (List.Mem.tail _ (List.Mem.tail _ (List.Mem.tail _ (List.Mem.tail _ (List.Mem.tail _ (List.Mem.head _)))))))))
  have lx := H.lt (w4.heap.size) 0 (.int .i64 y1) (List.Mem.tail _ (List.Mem.tail _ (List.Mem.tail _ (List.Mem.tail _ (List.Mem.tail _ (List.Mem.tail _ (List.Mem.head _)))))))
  have cy0 := H.cell (w5.heap.size) 0 (.int .i64 y2) (List.Mem.head _)
  have cy1 := H.cell (w5.heap.size) 1 (.int .i64 m2) (List.Mem.tail _ (List.Mem.head _))
  have cy2 := H.cell (w5.heap.size) 2 (.int .i64 d2) (List.Mem.tail _ (List.Mem.tail _ (List.Mem.head _)))
  have ly := H.lt (w5.heap.size) 0 (.int .i64 y2) (List.Mem.head _)
  go_wp2_with fail
  clear cx0 cx1 cx2 lx cy0 cy1 cy2 ly
  replace H := (H.pair (w6.heap.size) (.int .i64 0) (.int .i64 1) 26 rfl)
  (with_reducible refine (K.us a a 0 1 0 t _ (H.lens (List.Mem.tail _ (List.Mem.tail _ (List.Mem.tail _ (List.Mem.tail _ (List.Mem.tail _ (List.Mem.tail _ (List.Mem.tail _ (List.Mem.tail _ (List.Mem.tail _ (List.Mem.tail _ (List.Mem.tail _ (List.Mem.tail _ (List.Mem.tail _ (List.Mem.tail _ (List.Mem.tail _ (List.Mem.tail _ (List.Mem.head _)))))))))))))))))) Z2.out).mono ?_)
  rintro e w7 ⟨rfl, hb⟩
  replace H := H.below hb
  clear hb
  have cx0 := H.cell (w4.heap.size) 0 (.int .i64 y1) (List.Mem.tail _ (List.Mem.tail _ (List.Mem.tail _ (List.Mem.tail _ (List.Mem.tail _ (List.Mem.tail _ (List.Mem.tail _ (List.Mem.tail _ (List.Mem.tail _ (List.Mem.tail _ (List.Mem.head _)))))))))))
  have cx1 := H.cell (w4.heap.size) 1 (.int .i64 m1) (List.Mem.tail _ (List.Mem.tail _ (List.Mem.tail _ (List.Mem.tail _ (List.Mem.tail _ (List.Mem.tail _ (List.Mem.tail _ (List.Mem.tail _ (List.Mem.tail _ (List.Mem.tail _ (List.Mem.tail _ (List.Mem.head _))))))))))))
  have cx2 := H.cell (w4.heap.size) 2 (.int .i64 d1) (List.Mem.tail _ (List.Mem.tail _ (List.Mem.tail _ (List.Mem.tail _ (List.Mem.tail _ (List.Mem.tail _ (List.Mem.tail _ (List.Mem.tail _ (List.Mem.tail _ (List.Mem.tail _ (List.Mem.tail _ (List.Mem.tail _ (List.Mem.head _)))))))))))))
  have lx := H.lt (w4.heap.size) 0 (.int .i64 y1) (List.Mem.tail _ (List.Mem.tail _ (List.Mem.tail _ (List.Mem.tail _ (List.Mem.tail _ (List.Mem.tail _ (List.Mem.tail _ (List.Mem.tail _ (List.Mem.tail _ (List.Mem.tail _ (List.Mem.head _)))))))))))
  have cy0 := H.cell (w5.heap.size) 0 (.int .i64 y2) (List.Mem.tail _ (List.Mem.tail _ (List.Mem.tail _ (List.Mem.tail _ (List.Mem.head _)))))
  have cy1 := H.cell (w5.heap.size) 1 (.int .i64 m2) (List.Mem.tail _ (List.Mem.tail _ (List.Mem.tail _ (List.Mem.tail _ (List.Mem.tail _ (List.Mem.head _))))))
  have cy2 := H.cell (w5.heap.size) 2 (.int .i64 d2) (List.Mem.tail _ (List.Mem.tail _ (List.Mem.tail _ (List.Mem.tail _ (List.Mem.tail _ (List.Mem.tail _ (List.Mem.head _)))))))
  have ly := H.lt (w5.heap.size) 0 (.int .i64 y2) (List.Mem.tail _ (List.Mem.tail _ (List.Mem.tail _ (List.Mem.tail _ (List.Mem.head _)))))
  have co0 := H.cell (w6.heap.size) 0 (.int .i64 0) (List.Mem.head _)
  have co1 := H.cell (w6.heap.size) 1 (.int .i64 1) (List.Mem.tail _ (List.Mem.head _))
  have lo := H.lt (w6.heap.size) 0 (.int .i64 0) (List.Mem.head _)
  go_wp2_with fail
  clear cx0 cx1 cx2 lx cy0 cy1 cy2 ly co0 co1 lo
  replace H := (H.pair (w7.heap.size) (.int .i64 0) (.int .i64 1) 26 rfl)
  (with_reducible refine (K.isda a a k 0 1 0 _ (H.lens (List.Mem.tail _ (List.Mem.tail _ (List.Mem.tail _ (List.Mem.tail _ (List.Mem.tail _ (List.Mem.tail _ (List.Mem.tail _ (List.Mem.tail _ (List.Mem.tail _ (List.Mem.tail _ (List.Mem.tail _ (List.Mem.tail _ (List.Mem.tail _ (List.Mem.tail _ (List.Mem.tail _ (List.Mem.tail _ (List.Mem.tail _ (List.Mem.tail _ (List.Mem.tail _ (List.Mem.tail _ (List.Mem.head _)))))))))))))))))))))) Z3.out).mono ?_)
  rintro e w8 ⟨rfl, hb⟩
  replace H := H.below hb
  clear hb
  have cx0 := H.cell (w4.heap.size) 0 (.int .i64 y1) (List.Mem.tail _ (List.Mem.tail _ (List.Mem.tail _ (List.Mem.tail _ (List.Mem.tail _ (List.Mem.tail _ (List.Mem.tail _ (List.Mem.tail _ (List.Mem.tail _ (List.Mem.tail _ (List.Mem.tail _ (List.Mem.tail _ (List.Mem.tail _ (List.Mem.tail _ (List.Mem.head _)))))))))))))))
  have cx1 := H.cell (w4.heap.size) 1 (.int .i64 m1) (List.Mem.tail _ (List.Mem.tail _ (List.Mem.tail _ (List.Mem.tail _ (List.Mem.tail _ (List.Mem.tail _ (List.Mem.tail _ (List.Mem.tail _ (List.Mem.tail _ (List.Mem.tail _ (List.Mem.tail _ (List.Mem.tail _ (List.Mem.tail _ (List.Mem.tail _ (List.Mem.tail _ (List.Mem.head _))))))))))))))))
  have cx2 := H.cell (w4.heap.size) 2 (.int .i64 d1) (List.Mem.tail _ (List.Mem.tail _ (List.Mem.tail _ (List.Mem.tail _ (List.Mem.tail _ (List.Mem.tail _ (List.Mem.tail _ (List.Mem.tail _ (List.Mem.tail _ (List.Mem.tail _ (List.Mem.tail _ (List.Mem.tail _ (List.Mem.tail _ (List.Mem.tail _ (List.Mem.tail _ (List.Mem.tail _ (List.Mem.head _)))))))))))))))))
  have lx := H.lt (w4.heap.size) 0 (.int .i64 y1) (List.Mem.tail _ (List.Mem.tail _ (List.Mem.tail _ (List.Mem.tail _ (List.Mem.tail _ (List.Mem.tail _ (List.Mem.tail _ (List.Mem.tail _ (List.Mem.tail _ (List.Mem.tail _ (List.Mem.tail _ (List.Mem.tail _ (List.Mem.tail _ (List.Mem.tail _ (List.Mem.head _)))))))))))))))
  have cy0 := H.cell (w5.heap.size) 0 (.int .i64 y2) (List.Mem.tail _ (List.Mem.tail _ (List.Mem.tail _ (List.Mem.tail _ (List.Mem.tail _ (List.Mem.tail _ (List.Mem.tail _ (List.Mem.tail _ (List.Mem.head _)))))))))
  have cy1 := H.cell (w5.heap.size) 1 (.int .i64 m2) (List.Mem.tail _ (List.Mem.tail _ (List.Mem.tail _ (List.Mem.tail _ (List.Mem.tail _ (List.Mem.tail _ (List.Mem.tail _ (List.Mem.tail _ (List.Mem.tail _ (List.Mem.head _))))))))))
  have cy2 := H.cell (w5.heap.size) 2 (.int .i64 d2) (List.Mem.tail _ (List.Mem.tail _ (List.Mem.tail _ (List.Mem.tail _ (List.Mem.tail _ (List.Mem.tail _ (List.Mem.tail _ (List.Mem.tail _ (List.Mem.tail _ (List.Mem.tail _ (List.Mem.head _)))))))))))
  have ly := H.lt (w5.heap.size) 0 (.int .i64 y2) (List.Mem.tail _ (List.Mem.tail _ (List.Mem.tail _ (List.Mem.tail _ (List.Mem.tail _ (List.Mem.tail _ (List.Mem.tail _ (List.Mem.tail _ (List.Mem.head _)))))))))
  have co0 := H.cell (w6.heap.size) 0 (.int .i64 0) (List.Mem.tail _ (List.Mem.tail _ (List.Mem.tail _ (List.Mem.tail _ (List.Mem.head _)))))
  have co1 := H.cell (w6.heap.size) 1 (.int .i64 1) (List.Mem.tail _ (List.Mem.tail _ (List.Mem.tail _ (List.Mem.tail _ (List.Mem.tail _ (List.Mem.head _))))))
  have lo := H.lt (w6.heap.size) 0 (.int .i64 0) (List.Mem.tail _ (List.Mem.tail _ (List.Mem.tail _ (List.Mem.tail _ (List.Mem.head _)))))
  have cz0 := H.cell (w7.heap.size) 0 (.int .i64 0) (List.Mem.head _)
  have cz1 := H.cell (w7.heap.size) 1 (.int .i64 1) (List.Mem.tail _ (List.Mem.head _))
  have lz := H.lt (w7.heap.size) 0 (.int .i64 0) (List.Mem.head _)
  go_wp2_with fail
  clear cx0 cx1 cx2 lx cy0 cy1 cy2 ly co0 co1 lo cz0 cz1 lz
  replace H := ((H.pair (w8.heap.size) (.int .i64 0) (.int .i64 1) 26 rfl).pair (w8.heap.size + 1) (.int .i64 0) (.int .i64 1) 26 (by simp))
  (with_reducible refine (K.us a b p q 0 t _ (H.lens (List.Mem.tail _ (List.Mem.tail _ (List.Mem.tail _ (List.Mem.tail _ (List.Mem.tail _ (List.Mem.tail _ (List.Mem.tail _ (List.Mem.tail _ (List.Mem.tail _ (List.Mem.tail _ (List.Mem.tail _ (List.Mem.tail _ (List.Mem.tail _ (List.Mem.tail _ (List.Mem.tail _ (List.Mem.tail _ (List.Mem.tail _ (List.Mem.tail _ (List.Mem.tail _ (List.Mem.tail _ (List.Mem.tail _ (List.Mem.tail _ (List.Mem.tail _ (List.Mem.tail _ (List.Mem.tail _ (List.Mem.tail _ (List.Mem.tail _ (List.Mem.tail _ (List.Mem.head _)))))))))))))))))))))))))))))) W1.out).mono ?_)
  rintro e w9 ⟨rfl, hb⟩
  replace H := H.below hb
  clear hb
  go_wp2_with fail
  replace H := (H.pair (w9.heap.size) (.int .i64 p) (.int .i64 q) 26 rfl)
  (with_reducible refine (K.e a b p q 0 _ (H.lens (List.Mem.tail _ (List.Mem.tail _ (List.Mem.tail _ (List.Mem.tail _ (List.Mem.tail _ (List.Mem.tail _ (List.Mem.tail _ (List.Mem.tail _ (List.Mem.tail _ (List.Mem.tail _ (List.Mem.tail _ (List.Mem.tail _ (List.Mem.tail _ (List.Mem.tail _ (List.Mem.tail _ (List.Mem.tail _ (List.Mem.tail _ (List.Mem.tail _ (List.Mem.tail _ (List.Mem.tail _ (List.Mem.tail _ (List.Mem.tail _ (List.Mem.tail _ (List.Mem.tail _ (List.Mem.tail _ (List.Mem.tail _ (List.Mem.tail _ (List.Mem.tail _ (List.Mem.tail _ (List.Mem.tail _ (List.Mem.tail _ (List.Mem.tail _ (List.Mem.head _)))))))))))))))))))))))))))))))))) W2.out).mono ?_)
  rintro e w10 ⟨rfl, hb⟩
  replace H := H.below hb
  clear hb
  have cp0 := H.cell (w9.heap.size) 0 (.int .i64 p) (List.Mem.head _)
  have cp1 := H.cell (w9.heap.size) 1 (.int .i64 q) (List.Mem.tail _ (List.Mem.head _))
  have lp := H.lt (w9.heap.size) 0 (.int .i64 p) (List.Mem.head _)
  go_wp2_with fail
  clear cp0 cp1 lp
  replace H := (H.pair (w10.heap.size) (.int .i64 p) (.int .i64 q) 26 rfl)
  (with_reducible refine (K.isda a b k p q 0 _ (H.lens (List.Mem.tail _ (List.Mem.tail _ (List.Mem.tail _ (List.Mem.tail _ (List.Mem.tail _ (List.Mem.tail _ (List.Mem.tail _ (List.Mem.tail _ (List.Mem.tail _ (List.Mem.tail _ (List.Mem.tail _ (List.Mem.tail _ (List.Mem.tail _ (List.Mem.tail _ (List.Mem.tail _ (List.Mem.tail _ (List.Mem.tail _ (List.Mem.tail _ (List.Mem.tail _ (List.Mem.tail _ (List.Mem.tail _ (List.Mem.tail _ (List.Mem.tail _ (List.Mem.tail _ (List.Mem.tail _ (List.Mem.tail _ (List.Mem.tail _ (List.Mem.tail _ (List.Mem.tail _ (List.Mem.tail _ (List.Mem.tail _ (List.Mem.tail _ (List.Mem.tail _ (List.Mem.tail _ (List.Mem.tail _ (List.Mem.tail _ (List.Mem.head _)))))))))))))))))))))))))))))))))))))) W3.out).mono ?_)
  rintro e w11 ⟨rfl, hb⟩
  replace H := H.below hb
  clear hb
  have cp0 := H.cell (w9.heap.size) 0 (.int .i64 p) (List.Mem.tail _ (List.Mem.tail _ (List.Mem.tail _ (List.Mem.tail _ (List.Mem.head _)))))
  have cp1 := H.cell (w9.heap.size) 1 (.int .i64 q) (List.Mem.tail _ (List.Mem.tail _ (List.Mem.tail _ (List.Mem.tail _ (List.Mem.tail _ (List.Mem.head _))))))
  have lp := H.lt (w9.heap.size) 0 (.int .i64 p) (List.Mem.tail _ (List.Mem.tail _ (List.Mem.tail _ (List.Mem.tail _ (List.Mem.head _)))))
  have cq0 := H.cell (w10.heap.size) 0 (.int .i64 p) (List.Mem.head _)
  have cq1 := H.cell (w10.heap.size) 1 (.int .i64 q) (List.Mem.tail _ (List.Mem.head _))
  have lq := H.lt (w10.heap.size) 0 (.int .i64 p) (List.Mem.head _)
  go_wp2_with fail
  clear cp0 cp1 lp cq0 cq1 lq
  replace H := (H.pair (w11.heap.size) (.int .i64 p) (.int .i64 q) 26 rfl)
  go_ret
  exact ⟨rfl, H.old⟩

theorem tagree_walk (K : Ways) (a b : Int) (t : Bool) (k : Int) (w : World) (hL : Lens w) (ha : -9223372036854775808 ≤ a ∧ a < 9223372036854775808) (hb : -9223372036854775808 ≤ b ∧ b < 9223372036854775808) (hk : -9223372036854775808 ≤ k ∧ k < 9223372036854775808) :
    Calls Tryd.prog 6 #[.agg #[.int .i64 a, .int .i64 b, .bool t, .int .i64 k]] w fun e w' => e = .returned (.bool true) ∧ Below w.heap.size w w' := by
  by_cases h1 : a < 1 ∨ 3652059 < a
  · exact tagree_a K a b k t w hL h1
  · by_cases h2 : b < 1 ∨ 3652059 < b
    · exact tagree_b K a b k t w hL (by omega) h2
    · by_cases h3 : a > b
      · exact tagree_gt K a b k t w hL (by omega) (by omega) h3
      · obtain ⟨y1, m1, d1, a1, a2⟩ := day_of a (by omega) (by omega)
        obtain ⟨y2, m2, d2, b1, b2⟩ := day_of b (by omega) (by omega)
        have R1 : 1 ≤ a ∧ a ≤ 3652059 := by omega
        have R2 : 1 ≤ b ∧ b ≤ 3652059 := by omega
        have O1 : DayIs a y1 m1 d1 0 := Or.inl ⟨a1, a2, rfl⟩
        have O2 : DayIs b y2 m2 d2 0 := Or.inl ⟨b1, b2, rfl⟩
        have r0 : rN 0 360 = 0 := by decide +kernel
        have r1 : rD 0 360 = 1 := by decide +kernel
        have Z1 : PartIs eX a a 0 1 0 := part_in y1 m1 d1 y1 m1 d1 a1 a2 a1 a2 (Int.le_refl _) 0 (eX_same _ _ _) r0 r1
        have Z2 : PartIs (uX t) a a 0 1 0 := part_in y1 m1 d1 y1 m1 d1 a1 a2 a1 a2 (Int.le_refl _) 0 (uX_same _ _ _ _) r0 r1
        have Z3 : PartIs (iX (decide (a = k))) a a 0 1 0 := part_in y1 m1 d1 y1 m1 d1 a1 a2 a1 a2 (Int.le_refl _) 0 (iX_same _ _ _ _ a1) r0 r1
        by_cases n1 : d1 > 30
        · exact tagree_1 K a b k y1 m1 d1 y2 m2 d2 t w hL R1 R2 h3 O1 O2 Z1 Z2 Z3 n1
        · by_cases n2 : d2 > 30
          · exact tagree_2 K a b k y1 m1 d1 y2 m2 d2 t w hL R1 R2 h3 O1 O2 Z1 Z2 Z3 n1 n2
          · by_cases n3 : m1 = 2
            · exact tagree_3 K a b k y1 m1 d1 y2 m2 d2 t w hL R1 R2 h3 O1 O2 Z1 Z2 Z3 n1 n2 n3
            · by_cases n4 : m2 = 2
              · exact tagree_4 K a b k y1 m1 d1 y2 m2 d2 t w hL R1 R2 h3 O1 O2 Z1 Z2 Z3 n1 n2 n3 n4
              · obtain ⟨x1, x2, x3⟩ := all_alike t (decide (b = k)) y1 m1 d1 y2 m2 d2 a1 b1 (by omega) (by omega) n3 n4
                exact tagree_5 K a b k y1 m1 d1 y2 m2 d2 _ _ t w hL R1 R2 h3 O1 O2 Z1 Z2 Z3 n1 n2 n3 n4 (part_in y1 m1 d1 y2 m2 d2 a1 a2 b1 b2 (by omega) _ x1 rfl rfl) (part_in y1 m1 d1 y2 m2 d2 a1 a2 b1 b2 (by omega) _ x2 rfl rfl) (part_in y1 m1 d1 y2 m2 d2 a1 a2 b1 b2 (by omega) _ x3 rfl rfl)
end Go.Proofs.YtkmjaoiehmddcaaDoor
