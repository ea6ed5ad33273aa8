/- ThirtyYears: the walk. -/
import Derived.Test.YtkmjaoiehmddcaaDoorTyShown
namespace Go.Proofs.YtkmjaoiehmddcaaDoor
open Go.RowKit
set_option linter.unusedVariables false
set_option linter.unusedSimpArgs false

set_option maxHeartbeats 4000000 in
set_option maxRecDepth 100000 in
theorem tyears_a (K : Ways) (n k o : Int) (t : Bool) (w : World) (hL : Lens w) (h : n < 1 ∨ 3652059 < n) :
    Calls Tryd.prog 4 #[.agg #[.int .i64 n, .int .u8 k, .int .u8 o, .bool t]] w fun e w' => e = .returned (.bool true) ∧ Below w.heap.size w w' := by
  have H := (Held.start w).add (f := lensF) hL
  clear hL
  have D1 : Hid (decide (1 ≤ n ∧ n ≤ 3652059) = false) := Lib.hid (by rw [decide_eq_false_iff_not]; omega)
  clear h
  go_enter Tryd.func4, Tryd.ntmps4
  go_wp2_with fail
  replace H := (H.alloc (.cells #[.int .i64 n, .int .u8 k, .int .u8 o, .bool t] 38))
  (with_reducible refine (tshown_any K _ (H.lens (List.Mem.head _))).mono ?_)
  rintro e w1 ⟨rfl, hb⟩
  replace H := H.below hb
  clear hb
  go_wp2_with fail
  (with_reducible refine (rday_is n false _ D1.out).mono ?_)
  rintro e w2 ⟨rfl, hb⟩
  replace H := H.below hb
  clear hb
  go_wp2_with fail
  go_ret
  exact ⟨rfl, H.old⟩

set_option maxHeartbeats 4000000 in
set_option maxRecDepth 100000 in
theorem tyears_no (K : Ways) (n k o y m d Y M x e : Int) (t : Bool) (w : World) (hL : Lens w) (h1 : 1 ≤ n ∧ n ≤ 3652059) (bk : 0 ≤ k ∧ k < 256) (bo : 0 ≤ o ∧ o < 256) (hz : may y m d) (hx : nb y m d = n) (hY : y + k + (m - 1 + o % 60) / 12 = Y) (hM : (m - 1 + o % 60) % 12 + 1 = M) (hn : nN Y M d = x ∧ nE Y M d = e) (he : e ≠ 0) :
    Calls Tryd.prog 4 #[.agg #[.int .i64 n, .int .u8 k, .int .u8 o, .bool t]] w fun e w' => e = .returned (.bool true) ∧ Below w.heap.size w w' := by
  have H := (Held.start w).add (f := lensF) hL
  clear hL
  have D1 : Hid (decide (1 ≤ n ∧ n ≤ 3652059) = true) := Lib.hid (by rw [decide_eq_true_eq]; exact h1)
  have O1 : Hid (DayIs n y m d 0) := Lib.hid (Or.inl ⟨hz, hx, rfl⟩)
  obtain ⟨u1, u2, u3, u4, u5, u6⟩ := hz
  have l31 := ln_le y m
  have u7 : d ≤ 31 := by omega
  clear l31 u6 h1 hx
  have HY := Lib.hid hY
  have HM := Lib.hid hM
  have HN := Lib.hid hn
  clear hY hM hn
  have t1 : (e != 0) = true := by simpa using he
  clear he
  go_enter Tryd.func4, Tryd.ntmps4
  go_wp2_with fail
  replace H := (H.alloc (.cells #[.int .i64 n, .int .u8 k, .int .u8 o, .bool t] 38))
  (with_reducible refine (tshown_any K _ (H.lens (List.Mem.head _))).mono ?_)
  rintro e w1 ⟨rfl, hb⟩
  replace H := H.below hb
  clear hb
  go_wp2_with fail
  (with_reducible refine (rday_is n true _ D1.out).mono ?_)
  rintro e w2 ⟨rfl, hb⟩
  replace H := H.below hb
  clear hb
  go_wp2_with fail
  (with_reducible refine (rof_any n y m d 0 _ O1.out).mono ?_)
  rintro e w3 ⟨rfl, hb⟩
  replace H := H.below hb
  clear hb
  go_wp2_with fail
  rw [HY.out, HM.out]
  replace H := ((H.triple (w3.heap.size) (.int .i64 y) (.int .i64 m) (.int .i64 d) 41 rfl).triple (w3.heap.size + 1) (.int .i64 Y) (.int .i64 M) (.int .i64 d) 41 (by simp))
  (with_reducible refine (rnumber_is Y M d x e _ HN.out).mono ?_)
  rintro e w4 ⟨rfl, hb⟩
  replace H := H.below hb
  clear hb
  have ca0 := H.cell (w3.heap.size) 0 (.int .i64 y) (List.Mem.tail _ (List.Mem.tail _ (List.Mem.tail _ (List.Mem.tail _ (List.Mem.tail _ (List.Mem.tail _ (List.Mem.head _)))))))
  have ca1 := H.cell (w3.heap.size) 1 (.int .i64 m) (List.Mem.tail _ (List.Mem.tail _ (List.Mem.tail _ (List.Mem.tail _ (List.Mem.tail _ (List.Mem.tail _ (List.Mem.tail _ (List.Mem.head _))))))))
  have ca2 := H.cell (w3.heap.size) 2 (.int .i64 d) (List.Mem.tail _ (List.Mem.tail _ (List.Mem.tail _ (List.Mem.tail _ (List.Mem.tail _ (List.Mem.tail _ (List.Mem.tail _ (List.Mem.tail _ (List.Mem.head _)))))))))
  have la := H.lt (w3.heap.size) 0 (.int .i64 y) (List.Mem.tail _ (List.Mem.tail _ (List.Mem.tail _ (List.Mem.tail _ (List.Mem.tail _ (List.Mem.tail _ (List.Mem.head _)))))))
  go_wp2_with fail
  clear ca0 ca1 ca2 la
  go_ret
  exact ⟨rfl, H.old⟩

set_option maxHeartbeats 4000000 in
set_option maxRecDepth 100000 in
theorem tyears_d (K : Ways) (n k o y m d Y M x : Int) (t : Bool) (w : World) (hL : Lens w) (h1 : 1 ≤ n ∧ n ≤ 3652059) (bk : 0 ≤ k ∧ k < 256) (bo : 0 ≤ o ∧ o < 256) (hz : may y m d) (hx : nb y m d = n) (hY : y + k + (m - 1 + o % 60) / 12 = Y) (hM : (m - 1 + o % 60) % 12 + 1 = M) (hn : nN Y M d = x ∧ nE Y M d = 0) (hd : d > 27) :
    Calls Tryd.prog 4 #[.agg #[.int .i64 n, .int .u8 k, .int .u8 o, .bool t]] w fun e w' => e = .returned (.bool true) ∧ Below w.heap.size w w' := by
  have H := (Held.start w).add (f := lensF) hL
  clear hL
  have D1 : Hid (decide (1 ≤ n ∧ n ≤ 3652059) = true) := Lib.hid (by rw [decide_eq_true_eq]; exact h1)
  have O1 : Hid (DayIs n y m d 0) := Lib.hid (Or.inl ⟨hz, hx, rfl⟩)
  obtain ⟨u1, u2, u3, u4, u5, u6⟩ := hz
  have l31 := ln_le y m
  have u7 : d ≤ 31 := by omega
  clear l31 u6 h1 hx
  have HY := Lib.hid hY
  have HM := Lib.hid hM
  have HN := Lib.hid hn
  clear hY hM hn
  go_enter Tryd.func4, Tryd.ntmps4
  go_wp2_with fail
  replace H := (H.alloc (.cells #[.int .i64 n, .int .u8 k, .int .u8 o, .bool t] 38))
  (with_reducible refine (tshown_any K _ (H.lens (List.Mem.head _))).mono ?_)
  rintro e w1 ⟨rfl, hb⟩
  replace H := H.below hb
  clear hb
  go_wp2_with fail
  (with_reducible refine (rday_is n true _ D1.out).mono ?_)
  rintro e w2 ⟨rfl, hb⟩
  replace H := H.below hb
  clear hb
  go_wp2_with fail
  (with_reducible refine (rof_any n y m d 0 _ O1.out).mono ?_)
  rintro e w3 ⟨rfl, hb⟩
  replace H := H.below hb
  clear hb
  go_wp2_with fail
  rw [HY.out, HM.out]
  replace H := ((H.triple (w3.heap.size) (.int .i64 y) (.int .i64 m) (.int .i64 d) 41 rfl).triple (w3.heap.size + 1) (.int .i64 Y) (.int .i64 M) (.int .i64 d) 41 (by simp))
  (with_reducible refine (rnumber_is Y M d x 0 _ HN.out).mono ?_)
  rintro e w4 ⟨rfl, hb⟩
  replace H := H.below hb
  clear hb
  have ca0 := H.cell (w3.heap.size) 0 (.int .i64 y) (List.Mem.tail _ (List.Mem.tail _ (List.Mem.tail _ (List.Mem.tail _ (List.Mem.tail _ (List.Mem.tail _ (List.Mem.head _)))))))
  have ca1 := H.cell (w3.heap.size) 1 (.int .i64 m) (List.Mem.tail _ (List.Mem.tail _ (List.Mem.tail _ (List.Mem.tail _ (List.Mem.tail _ (List.Mem.tail _ (List.Mem.tail _ (List.Mem.head _))))))))
  have ca2 := H.cell (w3.heap.size) 2 (.int .i64 d) (List.Mem.tail _ (List.Mem.tail _ (List.Mem.tail _ (List.Mem.tail _ (List.Mem.tail _ (List.Mem.tail _ (List.Mem.tail _ (List.Mem.tail _ (List.Mem.head _)))))))))
  have la := H.lt (w3.heap.size) 0 (.int .i64 y) (List.Mem.tail _ (List.Mem.tail _ (List.Mem.tail _ (List.Mem.tail _ (List.Mem.tail _ (List.Mem.tail _ (List.Mem.head _)))))))
  go_wp2_with fail
  clear ca0 ca1 ca2 la
  go_ret
  exact ⟨rfl, H.old⟩

set_option maxHeartbeats 4000000 in
set_option maxRecDepth 100000 in
theorem tyears_in (K : Ways) (n k o y m d Y M x W p q : Int) (t : Bool) (w : World) (hL : Lens w) (h1 : 1 ≤ n ∧ n ≤ 3652059) (bk : 0 ≤ k ∧ k < 256) (bo : 0 ≤ o ∧ o < 256) (hz : may y m d) (hx : nb y m d = n) (hY : y + k + (m - 1 + o % 60) / 12 = Y) (hM : (m - 1 + o % 60) % 12 + 1 = M) (hn : nN Y M d = x ∧ nE Y M d = 0) (hd : ¬ d > 27) (hW : 12 * k + o % 60 = W) (hw : rN W 12 = p ∧ rD W 12 = q ∧ rE W 12 = 0) (w1 : PartIs (uX t) n x p q 0) (w2 : PartIs eX n x p q 0) (w3 : PartIs (iX true) n x p q 0) :
    Calls Tryd.prog 4 #[.agg #[.int .i64 n, .int .u8 k, .int .u8 o, .bool t]] w fun e w' => e = .returned (.bool true) ∧ Below w.heap.size w w' := by
  have H := (Held.start w).add (f := lensF) hL
  clear hL
  have D1 : Hid (decide (1 ≤ n ∧ n ≤ 3652059) = true) := Lib.hid (by rw [decide_eq_true_eq]; exact h1)
  have O1 : Hid (DayIs n y m d 0) := Lib.hid (Or.inl ⟨hz, hx, rfl⟩)
  obtain ⟨u1, u2, u3, u4, u5, u6⟩ := hz
  have l31 := ln_le y m
  have u7 : d ≤ 31 := by omega
  clear l31 u6 h1 hx
  have HY := Lib.hid hY
  have HM := Lib.hid hM
  have HN := Lib.hid hn
  clear hY hM hn
  have bW : 0 ≤ W ∧ W ≤ 100000 := by omega
  have HW := Lib.hid hW
  have WW := Lib.hid hw
  have W1 := Lib.hid w1
  have W2 := Lib.hid w2
  have W3 := Lib.hid w3
  clear hW hw w1 w2 w3
  go_enter Tryd.func4, Tryd.ntmps4
  go_wp2_with fail
  replace H := (H.alloc (.cells #[.int .i64 n, .int .u8 k, .int .u8 o, .bool t] 38))
  (with_reducible refine (tshown_any K _ (H.lens (List.Mem.head _))).mono ?_)
  rintro e w1 ⟨rfl, hb⟩
  replace H := H.below hb
  clear hb
  go_wp2_with fail
  (with_reducible refine (rday_is n true _ D1.out).mono ?_)
  rintro e w2 ⟨rfl, hb⟩
  replace H := H.below hb
  clear hb
  go_wp2_with fail
  (with_reducible refine (rof_any n y m d 0 _ O1.out).mono ?_)
  rintro e w3 ⟨rfl, hb⟩
  replace H := H.below hb
  clear hb
  go_wp2_with fail
  rw [HY.out, HM.out]
  replace H := ((H.triple (w3.heap.size) (.int .i64 y) (.int .i64 m) (.int .i64 d) 41 rfl).triple (w3.heap.size + 1) (.int .i64 Y) (.int .i64 M) (.int .i64 d) 41 (by simp))
  (with_reducible refine (rnumber_is Y M d x 0 _ HN.out).mono ?_)
  rintro e w4 ⟨rfl, hb⟩
  replace H := H.below hb
  clear hb
  have ca0 := H.cell (w3.heap.size) 0 (.int .i64 y) (List.Mem.tail _ (List.Mem.tail _ (List.Mem.tail _ (List.Mem.tail _ (List.Mem.tail _ (List.Mem.tail _ (List.Mem.head _)))))))
  have ca1 := H.cell (w3.heap.size) 1 (.int .i64 m) (List.Mem.tail _ (List.Mem.tail _ (List.Mem.tail _ (List.Mem.tail _ (List.Mem.tail _ (List.Mem.tail _ (List.Mem.tail _ (List.Mem.head _))))))))
  have ca2 := H.cell (w3.heap.size) 2 (.int .i64 d) (List.Mem.tail _ (List.Mem.tail _ (List.Mem.tail _ (List.Mem.tail _ (List.Mem.tail _ (List.Mem.tail _ (List.Mem.tail _ (List.Mem.tail _ (List.Mem.head _)))))))))
  have la := H.lt (w3.heap.size) 0 (.int .i64 y) (List.Mem.tail _ (List.Mem.tail _ (List.Mem.tail _ (List.Mem.tail _ (List.Mem.tail _ (List.Mem.tail _ (List.Mem.head _)))))))
  go_wp2_with fail
  clear ca0 ca1 ca2 la
  rw [HW.out]
  (with_reducible refine (refnew_is W 12 p q 0 _ bW.1 (by omega) (by decide) (by decide) WW.out).mono ?_)
  rintro e w5 ⟨rfl, hb⟩
  replace H := H.below hb
  clear hb
  have ca0 := H.cell (w3.heap.size) 0 (.int .i64 y) (List.Mem.tail _ (List.Mem.tail _ (List.Mem.tail _ (List.Mem.tail _ (List.Mem.tail _ (List.Mem.tail _ (List.Mem.head _)))))))
  have ca1 := H.cell (w3.heap.size) 1 (.int .i64 m) (List.Mem.tail _ (List.Mem.tail _ (List.Mem.tail _ (List.Mem.tail _ (List.Mem.tail _ (List.Mem.tail _ (List.Mem.tail _ (List.Mem.head _))))))))
  have ca2 := H.cell (w3.heap.size) 2 (.int .i64 d) (List.Mem.tail _ (List.Mem.tail _ (List.Mem.tail _ (List.Mem.tail _ (List.Mem.tail _ (List.Mem.tail _ (List.Mem.tail _ (List.Mem.tail _ (List.Mem.head _)))))))))
  have la := H.lt (w3.heap.size) 0 (.int .i64 y) (List.Mem.tail _ (List.Mem.tail _ (List.Mem.tail _ (List.Mem.tail _ (List.Mem.tail _ (List.Mem.tail _ (List.Mem.head _)))))))
  go_wp2_with fail
  clear ca0 ca1 ca2 la
  replace H := (H.pair (w5.heap.size) (.int .i64 p) (.int .i64 q) 26 rfl)
  (with_reducible refine (K.us n x p q 0 t _ (H.lens (List.Mem.tail _ (List.Mem.tail _ (List.Mem.tail _ (List.Mem.tail _ (List.Mem.tail _ (List.Mem.tail _ (List.Mem.tail _ (List.Mem.tail _ (List.Mem.tail _ (List.Mem.tail _ (List.Mem.tail _ (List.Mem.tail _ (List.Mem.tail _ (List.Mem.tail _ (List.Mem.tail _ (List.Mem.tail _ (List.Mem.head _)))))))))))))))))) W1.out).mono ?_)
  rintro e w6 ⟨rfl, hb⟩
  replace H := H.below hb
  clear hb
  have ca0 := H.cell (w3.heap.size) 0 (.int .i64 y) (List.Mem.tail _ (List.Mem.tail _ (List.Mem.tail _ (List.Mem.tail _ (List.Mem.tail _ (List.Mem.tail _ (List.Mem.tail _ (List.Mem.tail _ (List.Mem.tail _ (List.Mem.tail _ (List.Mem.head _)))))))))))
  have ca1 := H.cell (w3.heap.size) 1 (.int .i64 m) (List.Mem.tail _ (List.Mem.tail _ (List.Mem.tail _ (List.Mem.tail _ (List.Mem.tail _ (List.Mem.tail _ (List.Mem.tail _ (List.Mem.tail _ (List.Mem.tail _ (List.Mem.tail _ (List.Mem.tail _ (List.Mem.head _))))))))))))
  have ca2 := H.cell (w3.heap.size) 2 (.int .i64 d) (List.Mem.tail _ (List.Mem.tail _ (List.Mem.tail _ (List.Mem.tail _ (List.Mem.tail _ (List.Mem.tail _ (List.Mem.tail _ (List.Mem.tail _ (List.Mem.tail _ (List.Mem.tail _ (List.Mem.tail _ (List.Mem.tail _ (List.Mem.head _)))))))))))))
  have la := H.lt (w3.heap.size) 0 (.int .i64 y) (List.Mem.tail _ (List.Mem.tail _ (List.Mem.tail _ (List.Mem.tail _ (List.Mem.tail _ (List.Mem.tail _ (List.Mem.tail _ (List.Mem.tail _ (List.Mem.tail _ (List.Mem.tail _ (List.Mem.head _)))))))))))
  have cv0 := H.cell (w5.heap.size) 0 (.int .i64 p) (List.Mem.head _)
  have cv1 := H.cell (w5.heap.size) 1 (.int .i64 q) (List.Mem.tail _ (List.Mem.head _))
  have lv := H.lt (w5.heap.size) 0 (.int .i64 p) (List.Mem.head _)
  go_wp2_with fail
  clear ca0 ca1 ca2 la cv0 cv1 lv
  replace H := (H.pair (w6.heap.size) (.int .i64 p) (.int .i64 q) 26 rfl)
  (with_reducible refine (K.e n x p q 0 _ (H.lens (List.Mem.tail _ (List.Mem.tail _ (List.Mem.tail _ (List.Mem.tail _ (List.Mem.tail _ (List.Mem.tail _ (List.Mem.tail _ (List.Mem.tail _ (List.Mem.tail _ (List.Mem.tail _ (List.Mem.tail _ (List.Mem.tail _ (List.Mem.tail _ (List.Mem.tail _ (List.Mem.tail _ (List.Mem.tail _ (List.Mem.tail _ (List.Mem.tail _ (List.Mem.tail _ (List.Mem.tail _ (List.Mem.head _)))))))))))))))))))))) W2.out).mono ?_)
  rintro e w7 ⟨rfl, hb⟩
  replace H := H.below hb
  clear hb
  have ca0 := H.cell (w3.heap.size) 0 (.int .i64 y) (List.Mem.tail _ (List.Mem.tail _ (List.Mem.tail _ (List.Mem.tail _ (List.Mem.tail _ (List.Mem.tail _ (List.Mem.tail _ (List.Mem.tail _ (List.Mem.tail _ (List.Mem.tail _ (List.Mem.tail _ (List.Mem.tail _ (List.Mem.tail _ (List.Mem.tail _ (List.Mem.head _)))))))))))))))
  have ca1 := H.cell (w3.heap.size) 1 (.int .i64 m) (List.Mem.tail _ (List.Mem.tail _ (List.Mem.tail _ (List.Mem.tail _ (List.Mem.tail _ (List.Mem.tail _ (List.Mem.tail _ (List.Mem.tail _ (List.Mem.tail _ (List.Mem.tail _ (List.Mem.tail _ (List.Mem.tail _ (List.Mem.tail _ (List.Mem.tail _ (List.Mem.tail _ (List.Mem.head _))))))))))))))))
  have ca2 := H.cell (w3.heap.size) 2 (.int .i64 d) (List.Mem.tail _ (List.Mem.tail _ (List.Mem.tail _ (List.Mem.tail _ (List.Mem.tail _ (List.Mem.tail _ (List.Mem.tail _ (List.Mem.tail _ (List.Mem.tail _ (List.Mem.tail _ (List.Mem.tail _ (List.Mem.tail _ (List.Mem.tail _ (List.Mem.tail _ (List.Mem.tail _ (List.Mem.tail _ (List.Mem.head _)))))))))))))))))
  have la := H.lt (w3.heap.size) 0 (.int .i64 y) (List.Mem.tail _ (List.Mem.tail _ (List.Mem.tail _ (List.Mem.tail _ (List.Mem.tail _ (List.Mem.tail _ (List.Mem.tail _ (List.Mem.tail _ (List.Mem.tail _ (List.Mem.tail _ (List.Mem.tail _ (List.Mem.tail _ (List.Mem.tail _ (List.Mem.tail _ (List.Mem.head _)))))))))))))))
  have cv0 := H.cell (w5.heap.size) 0 (.int .i64 p) (List.Mem.tail _ (List.Mem.tail _ (List.Mem.tail _ (List.Mem.tail _ (List.Mem.head _)))))
  have cv1 := H.cell (w5.heap.size) 1 (.int .i64 q) (List.Mem.tail _ (List.Mem.tail _ (List.Mem.tail _ (List.Mem.tail _ (List.Mem.tail _ (List.Mem.head _))))))
  have lv := H.lt (w5.heap.size) 0 (.int .i64 p) (List.Mem.tail _ (List.Mem.tail _ (List.Mem.tail _ (List.Mem.tail _ (List.Mem.head _)))))
  have cp0 := H.cell (w6.heap.size) 0 (.int .i64 p) (List.Mem.head _)
  have cp1 := H.cell (w6.heap.size) 1 (.int .i64 q) (List.Mem.tail _ (List.Mem.head _))
  have lp := H.lt (w6.heap.size) 0 (.int .i64 p) (List.Mem.head _)
  go_wp2_with fail
  clear ca0 ca1 ca2 la cv0 cv1 lv cp0 cp1 lp
  replace H := (H.pair (w7.heap.size) (.int .i64 p) (.int .i64 q) 26 rfl)
  (with_reducible refine (K.isda n x x p q 0 _ (H.lens (List.Mem.tail _ (List.Mem.tail _ (List.Mem.tail _ (List.Mem.tail _ (List.Mem.tail _ (List.Mem.tail _ (List.Mem.tail _ (List.Mem.tail _ (List.Mem.tail _ (List.Mem.tail _ (List.Mem.tail _ (List.Mem.tail _ (List.Mem.tail _ (List.Mem.tail _ (List.Mem.tail _ (List.Mem.tail _ (List.Mem.tail _ (List.Mem.tail _ (List.Mem.tail _ (List.Mem.tail _ (List.Mem.tail _ (List.Mem.tail _ (List.Mem.tail _ (List.Mem.tail _ (List.Mem.head _)))))))))))))))))))))))))) (by rw [show decide (x = x) = true from decide_eq_true rfl]; exact W3.out)).mono ?_)
  rintro e w8 ⟨rfl, hb⟩
  replace H := H.below hb
  clear hb
  have ca0 := H.cell (w3.heap.size) 0 (.int .i64 y) (List.Mem.tail _ (List.Mem.tail _ (List.Mem.tail _ (List.Mem.tail _ (List.Mem.tail _ (List.Mem.tail _ (List.Mem.tail _ (List.Mem.tail _ (List.Mem.tail _ (List.Mem.tail _ (List.Mem.tail _ (List.Mem.tail _ (List.Mem.tail _ (List.Mem.tail _ (List.Mem.tail _ (List.Mem.tail _ (List.Mem.tail _ (List.Mem.tail _ (List.Mem.head _)))))))))))))))))))
  have ca1 := H.cell (w3.heap.size) 1 (.int .i64 m) (List.Mem.tail _ (List.Mem.tail _ (List.Mem.tail _ (List.Mem.tail _ (List.Mem.tail _ (List.Mem.tail _ (List.Mem.tail _ (List.Mem.tail _ (List.Mem.tail _ (List.Mem.tail _ (List.Mem.tail _ (List.Mem.tail _ (List.Mem.tail _ (List.Mem.tail _ (List.Mem.tail _ (List.Mem.tail _ (List.Mem.tail _ (List.Mem.tail _ (List.Mem.tail _ (List.Mem.head _))))))))))))))))))))
  have ca2 := H.cell (w3.heap.size) 2 (.int .i64 d) (List.Mem.tail _ (List.Mem.tail _ (List.Mem.tail _ (List.Mem.tail _ (List.Mem.tail _ (List.Mem.tail _ (List.Mem.tail _ (List.Mem.tail _ (List.Mem.tail _ (List.Mem.tail _ (List.Mem.tail _ (List.Mem.tail _ (List.Mem.tail _ (List.Mem.tail _ (List.Mem.tail _ (List.Mem.tail _ (List.Mem.tail _ (List.Mem.tail _ (List.Mem.tail _ (List.Mem.tail _ (List.Mem.head _)))))))))))))))))))))
  have la := H.lt (w3.heap.size) 0 (.int .i64 y) (List.Mem.tail _ (List.Mem.tail _ (List.Mem.tail _ (List.Mem.tail _ (List.Mem.tail _ (List.Mem.tail _ (List.Mem.tail _ (List.Mem.tail _ (List.Mem.tail _ (List.Mem.tail _ (List.Mem.tail _ (List.Mem.tail _ (List.Mem.tail _ (List.Mem.tail _ (List.Mem.tail _ (List.Mem.tail _ (List.Mem.tail _ (List.Mem.tail _ (List.Mem.head _)))))))))))))))))))
  have cv0 := H.cell (w5.heap.size) 0 (.int .i64 p) (List.Mem.tail _ (List.Mem.tail _ (List.Mem.tail _ (List.Mem.tail _ (List.Mem.tail _ (List.Mem.tail _ (List.Mem.tail _ (List.Mem.tail _ (List.Mem.head _)))))))))
  have cv1 := H.cell (w5.heap.size) 1 (.int .i64 q) (List.Mem.tail _ (List.Mem.tail _ (List.Mem.tail _ (List.Mem.tail _ (List.Mem.tail _ (List.Mem.tail _ (List.Mem.tail _ (List.Mem.tail _ (List.Mem.tail _ (List.Mem.head _))))))))))
  have lv := H.lt (w5.heap.size) 0 (.int .i64 p) (List.Mem.tail _ (List.Mem.tail _ (List.Mem.tail _ (List.Mem.tail _ (List.Mem.tail _ (List.Mem.tail _ (List.Mem.tail _ (List.Mem.tail _ (List.Mem.head _)))))))))
  have cp0 := H.cell (w6.heap.size) 0 (.int .i64 p) (List.Mem.tail _ (List.Mem.tail _ (List.Mem.tail _ (List.Mem.tail _ (List.Mem.head _)))))
  have cp1 := H.cell (w6.heap.size) 1 (.int .i64 q) (List.Mem.tail _ (List.Mem.tail _ (List.Mem.tail _ (List.Mem.tail _ (List.Mem.tail _ (List.Mem.head _))))))
  have lp := H.lt (w6.heap.size) 0 (.int .i64 p) (List.Mem.tail _ (List.Mem.tail _ (List.Mem.tail _ (List.Mem.tail _ (List.Mem.head _)))))
  have cq0 := H.cell (w7.heap.size) 0 (.int .i64 p) (List.Mem.head _)
  have cq1 := H.cell (w7.heap.size) 1 (.int .i64 q) (List.Mem.tail _ (List.Mem.head _))
  have lq := H.lt (w7.heap.size) 0 (.int .i64 p) (List.Mem.head _)
  go_wp2_with fail
  clear ca0 ca1 ca2 la cv0 cv1 lv cp0 cp1 lp cq0 cq1 lq
  replace H := (H.pair (w8.heap.size) (.int .i64 p) (.int .i64 q) 26 rfl)
  go_ret
  exact ⟨rfl, H.old⟩

theorem px_years (y m Y M d W : Int) (h : 12 * Y + M = 12 * y + m + W) (hw : 0 ≤ W) : px y m d Y M d = 30 * W := by unfold px; split <;> omega
theorem ways_years (t s : Bool) (y m Y M d W : Int) (h1 : may y m d) (h2 : may Y M d) (hd : d ≤ 27) (h : 12 * Y + M = 12 * y + m + W) (hw : 0 ≤ W) :
    uX t y m d Y M d = 30 * W ∧ eX y m d Y M d = 30 * W ∧ iX s y m d Y M d = 30 * W := by
  have no : ∀ y m, may y m d → d ≠ ln y m := fun y m a => by
    obtain ⟨-, -, a3, a4, -, -⟩ := a
    have := ln_ge y m a3 a4
    omega
  have f1 : febB y m d = false := decide_eq_false (fun x => no y m h1 x.2)
  have f2 : febB Y M d = false := decide_eq_false (fun x => no Y M h2 x.2)
  have c : cutD d = d := by unfold cutD; rw [if_neg (by omega)]
  refine ⟨?_, ?_, ?_⟩
  · unfold uX
    rw [f1, f2]
    unfold usA usB usC
    simp only [Bool.false_eq_true, and_false, false_and, if_false]
    rw [c, if_neg (by omega)]
    exact px_years y m Y M d W h hw
  · unfold eX; rw [c]; exact px_years y m Y M d W h hw
  · unfold iX fulD isB
    rw [if_neg (no y m h1), if_neg (fun x => no Y M h2 x.1)]
    exact px_years y m Y M d W h hw
theorem tyears_walk (K : Ways) (n k o : Int) (t : Bool) (w : World) (hL : Lens w) (ha : -9223372036854775808 ≤ n ∧ n < 9223372036854775808) (bk : 0 ≤ k ∧ k < 256) (bo : 0 ≤ o ∧ o < 256) :
    Calls Tryd.prog 4 #[.agg #[.int .i64 n, .int .u8 k, .int .u8 o, .bool t]] w fun e w' => e = .returned (.bool true) ∧ Below w.heap.size w w' := by
  by_cases h : n < 1 ∨ 3652059 < n
  · exact tyears_a K n k o t w hL h
  · obtain ⟨y, m, d, a, b⟩ := day_of n (by omega) (by omega)
    have R : 1 ≤ n ∧ n ≤ 3652059 := by omega
    obtain ⟨Y, hY⟩ : ∃ Y, y + k + (m - 1 + o % 60) / 12 = Y := ⟨_, rfl⟩
    obtain ⟨M, hM⟩ : ∃ M, (m - 1 + o % 60) % 12 + 1 = M := ⟨_, rfl⟩
    by_cases hm : may Y M d
    · have z := n_yes hm
      by_cases hd : d > 27
      · exact tyears_d K n k o y m d Y M _ t w hL R bk bo a b hY hM ⟨rfl, z.2⟩ hd
      · have hs : 12 * Y + M = 12 * y + m + (12 * k + o % 60) := by omega
        have w0 : 0 ≤ 12 * k + o % 60 := by omega
        obtain ⟨e1, e2, e3⟩ := ways_years t true y m Y M d (12 * k + o % 60) a hm (by omega) hs w0
        have hle : n ≤ nb Y M d := by
          rw [← b]
          by_cases q : 12 * k + o % 60 = 0
          · have a' := a
            have hm' := hm
            obtain ⟨-, -, p3, p4, -, -⟩ := a'
            obtain ⟨-, -, q3, q4, -, -⟩ := hm'
            have ey : Y = y := by omega
            have em : M = m := by omega
            rw [ey, em]; exact Int.le_refl _
          · have a' := a
            have hm' := hm
            obtain ⟨-, -, p3, p4, -, -⟩ := a'
            obtain ⟨-, -, q3, q4, -, -⟩ := hm'
            exact Int.le_of_lt (nb_lt _ _ _ _ _ _ a hm (by omega))
        have r := r_eq (n := 30 * (12 * k + o % 60)) (d := 360) (n' := 12 * k + o % 60) (d' := 12) (by decide) (by decide) (by omega)
        have hw : rE (12 * k + o % 60) 12 = 0 := by
          refine (r_yes ?_).2.2
          rw [fit_iff]
          have := m_le (12 * k + o % 60) 12 w0 (by decide)
          omega
        exact tyears_in K n k o y m d Y M _ _ _ _ t w hL R bk bo a b hY hM ⟨rfl, z.2⟩ hd rfl ⟨rfl, rfl, hw⟩
          (by rw [z.1]; exact part_in y m d Y M d a b hm rfl hle _ e1 r.1 r.2.1) (by rw [z.1]; exact part_in y m d Y M d a b hm rfl hle _ e2 r.1 r.2.1)
          (by rw [z.1]; exact part_in y m d Y M d a b hm rfl hle _ e3 r.1 r.2.1)
    · have z := n_no hm
      exact tyears_no K n k o y m d Y M _ 3 t w hL R bk bo a b hY hM ⟨rfl, z.2⟩ (by decide)
end Go.Proofs.YtkmjaoiehmddcaaDoor
