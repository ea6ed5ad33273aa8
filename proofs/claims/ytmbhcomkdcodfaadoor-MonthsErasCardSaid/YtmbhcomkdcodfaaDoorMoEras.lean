/- MonthsEras: the walk. -/
import Derived.Test.YtmbhcomkdcodfaaDoorMoShown
import Derived.Test.YtmbhcomkdcodfaaDoorMoEraNum
namespace Go.Proofs.YtmbhcomkdcodfaaDoor
open Go.RowKit
set_option linter.unusedVariables false
set_option linter.unusedSimpArgs false

set_option maxHeartbeats 4000000 in
set_option maxRecDepth 100000 in
theorem meras_out (n k : Int) (w : World) (hL : Lens w) (h : n < 1 ∨ 3652059 < n) :
    Calls Tryd.prog 8 #[.int .i64 n, .int .i16 k] w fun e w' => e = .returned (.bool true) ∧ Below w.heap.size w w' := by
  have H := (Held.start w).add (f := lensF) hL
  clear hL
  have D1 : Hid (decide (1 ≤ n ∧ n ≤ 3652059) = false) := Lib.hid (by rw [decide_eq_false_iff_not]; omega)
  clear h
  go_enter Tryd.func8, Tryd.ntmps8
  go_wp2_with fail
  (with_reducible refine (mshown_any _ (H.lens (List.Mem.head _))).mono ?_)
  rintro e w1 ⟨rfl, hb⟩
  replace H := H.below hb
  clear hb
  go_wp2_with fail
  (with_reducible refine (rday_is n false _ D1.out).mono ?_)
  rintro e w2 ⟨rfl, hb⟩
  replace H := H.below hb
  clear hb
  go_wp2_with fail
  go_ret
  exact ⟨rfl, H.old⟩

set_option maxHeartbeats 4000000 in
set_option maxRecDepth 100000 in
theorem meras_0short0 (n k y b z x : Int) (w : World) (hL : Lens w) (h1 : 1 ≤ n ∧ n ≤ 3652059) (hk : -32768 ≤ k ∧ k < 32768) (ha : MoveIs n 4800 false (n + 146097) 0) (hb : MoveIs n 12 false b 0) (hc : DayIs n y 2 29 0) (hz : EndIs n z 0) (hx : MoveIs z k true x 0) (t1 : n + 146097 ≤ 3652059) (hd : DayIs b (y + 1) 2 28 0) (y1 : 1 ≤ y ∧ y ≤ 9999) (hl : LastIs x true) :
    Calls Tryd.prog 8 #[.int .i64 n, .int .i16 k] w fun e w' => e = .returned (.bool true) ∧ Below w.heap.size w w' := by
  have H := (Held.start w).add (f := lensF) hL
  clear hL
  have D1 : Hid (decide (1 ≤ n ∧ n ≤ 3652059) = true) := Lib.hid (by rw [decide_eq_true_eq]; exact h1)
  have MA := Lib.hid ha
  have MB := Lib.hid hb
  have O1 := Lib.hid hc
  have EZ := Lib.hid hz
  have MX := Lib.hid hx
  clear ha hb hc hz hx
  have O2 := Lib.hid hd
  clear hd
  have T1 := Lib.hid hl
  clear hl
  go_enter Tryd.func8, Tryd.ntmps8
  go_wp2_with fail
  (with_reducible refine (mshown_any _ (H.lens (List.Mem.head _))).mono ?_)
  rintro e w1 ⟨rfl, hb⟩
  replace H := H.below hb
  clear hb
  go_wp2_with fail
  (with_reducible refine (rday_is n true _ D1.out).mono ?_)
  rintro e w2 ⟨rfl, hb⟩
  replace H := H.below hb
  clear hb
  go_wp2_with fail
  (with_reducible refine (shift_any n 4800 (n + 146097) 0 _ (H.lens (List.Mem.head _)) MA.out).mono ?_)
  rintro e w3 ⟨rfl, hb⟩
  replace H := H.below hb
  clear hb
  go_wp2_with fail
  (with_reducible refine (shift_any n 12 b 0 _ (H.lens (List.Mem.head _)) MB.out).mono ?_)
  rintro e w4 ⟨rfl, hb⟩
  replace H := H.below hb
  clear hb
  go_wp2_with fail
  (with_reducible refine (rof_any n y 2 29 0 _ O1.out).mono ?_)
  rintro e w5 ⟨rfl, hb⟩
  replace H := H.below hb
  clear hb
  go_wp2_with fail
  replace H := (H.triple (w5.heap.size) (.int .i64 y) (.int .i64 2) (.int .i64 29) 35 rfl)
  (with_reducible refine (rof_any b (y + 1) 2 28 0 _ O2.out).mono ?_)
  rintro e w6 ⟨rfl, hb⟩
  replace H := H.below hb
  clear hb
  have cc0 := H.cell (w5.heap.size) 0 (.int .i64 y) (List.Mem.head _)
  have cc1 := H.cell (w5.heap.size) 1 (.int .i64 2) (List.Mem.tail _ (List.Mem.head _))
  have cc2 := H.cell (w5.heap.size) 2 (.int .i64 29) (List.Mem.tail _ (List.Mem.tail _ (List.Mem.head _)))
  have lc := H.lt (w5.heap.size) 0 (.int .i64 y) (List.Mem.head _)
  go_wp2_with fail
  clear cc0 cc1 cc2 lc
  replace H := (H.triple (w6.heap.size) (.int .i64 (y + 1)) (.int .i64 2) (.int .i64 28) 35 rfl)
  (with_reducible refine (rend_any n z 0 _ EZ.out).mono ?_)
  rintro e w7 ⟨rfl, hb⟩
  replace H := H.below hb
  clear hb
  have cc0 := H.cell (w5.heap.size) 0 (.int .i64 y) (List.Mem.tail _ (List.Mem.tail _ (List.Mem.tail _ (List.Mem.tail _ (List.Mem.tail _ (List.Mem.tail _ (List.Mem.head _)))))))
  have cc1 := H.cell (w5.heap.size) 1 (.int .i64 2) (List.Mem.tail _ (List.Mem.tail _ (List.Mem.tail _ (List.Mem.tail _ (List.Mem.tail _ (List.Mem.tail _ (List.Mem.tail _ (List.Mem.head _))))))))
  have cc2 := H.cell (w5.heap.size) 2 (.int .i64 29) (List.Mem.tail _ (List.Mem.tail _ (List.Mem.tail _ (List.Mem.tail _ (List.Mem.tail _ (List.Mem.tail _ (List.Mem.tail _ (List.Mem.tail _ (List.Mem.head _)))))))))
  have lc := H.lt (w5.heap.size) 0 (.int .i64 y) (List.Mem.tail _ (List.Mem.tail _ (List.Mem.tail _ (List.Mem.tail _ (List.Mem.tail _ (List.Mem.tail _ (List.Mem.head _)))))))
  have cd0 := H.cell (w6.heap.size) 0 (.int .i64 (y + 1)) (List.Mem.head _)
  have cd1 := H.cell (w6.heap.size) 1 (.int .i64 2) (List.Mem.tail _ (List.Mem.head _))
  have cd2 := H.cell (w6.heap.size) 2 (.int .i64 28) (List.Mem.tail _ (List.Mem.tail _ (List.Mem.head _)))
  have ld := H.lt (w6.heap.size) 0 (.int .i64 (y + 1)) (List.Mem.head _)
  go_wp2_with fail
  clear cc0 cc1 cc2 lc cd0 cd1 cd2 ld
  (with_reducible refine (move_any z k x 0 true _ (H.lens (List.Mem.tail _ (List.Mem.tail _ (List.Mem.tail _ (List.Mem.tail _ (List.Mem.tail _ (List.Mem.tail _ (List.Mem.tail _ (List.Mem.tail _ (List.Mem.tail _ (List.Mem.tail _ (List.Mem.tail _ (List.Mem.tail _ (List.Mem.head _)))))))))))))) MX.out).mono ?_)
  rintro e w8 ⟨rfl, hb⟩
  replace H := H.below hb
  clear hb
  go_wp2_with fail
  (with_reducible refine (last_any x true _ (H.lens (List.Mem.tail _ (List.Mem.tail _ (List.Mem.tail _ (List.Mem.tail _ (List.Mem.tail _ (List.Mem.tail _ (List.Mem.tail _ (List.Mem.tail _ (List.Mem.tail _ (List.Mem.tail _ (List.Mem.tail _ (List.Mem.tail _ (List.Mem.head _)))))))))))))) T1.out).mono ?_)
  rintro e w9 ⟨rfl, hb⟩
  replace H := H.below hb
  clear hb
  go_wp2_with fail
  go_ret
  exact ⟨rfl, H.old⟩

set_option maxHeartbeats 4000000 in
set_option maxRecDepth 100000 in
theorem meras_3short0 (n k y b z x : Int) (w : World) (hL : Lens w) (h1 : 1 ≤ n ∧ n ≤ 3652059) (hk : -32768 ≤ k ∧ k < 32768) (ha : MoveIs n 4800 false 0 3) (hb : MoveIs n 12 false b 0) (hc : DayIs n y 2 29 0) (hz : EndIs n z 0) (hx : MoveIs z k true x 0) (t1 : ¬ n + 146097 ≤ 3652059) (hd : DayIs b (y + 1) 2 28 0) (y1 : 1 ≤ y ∧ y ≤ 9999) (hl : LastIs x true) :
    Calls Tryd.prog 8 #[.int .i64 n, .int .i16 k] w fun e w' => e = .returned (.bool true) ∧ Below w.heap.size w w' := by
  have H := (Held.start w).add (f := lensF) hL
  clear hL
  have D1 : Hid (decide (1 ≤ n ∧ n ≤ 3652059) = true) := Lib.hid (by rw [decide_eq_true_eq]; exact h1)
  have MA := Lib.hid ha
  have MB := Lib.hid hb
  have O1 := Lib.hid hc
  have EZ := Lib.hid hz
  have MX := Lib.hid hx
  clear ha hb hc hz hx
  have O2 := Lib.hid hd
  clear hd
  have T1 := Lib.hid hl
  clear hl
  go_enter Tryd.func8, Tryd.ntmps8
  go_wp2_with fail
  (with_reducible refine (mshown_any _ (H.lens (List.Mem.head _))).mono ?_)
  rintro e w1 ⟨rfl, hb⟩
  replace H := H.below hb
  clear hb
  go_wp2_with fail
  (with_reducible refine (rday_is n true _ D1.out).mono ?_)
  rintro e w2 ⟨rfl, hb⟩
  replace H := H.below hb
  clear hb
  go_wp2_with fail
  (with_reducible refine (shift_any n 4800 0 3 _ (H.lens (List.Mem.head _)) MA.out).mono ?_)
  rintro e w3 ⟨rfl, hb⟩
  replace H := H.below hb
  clear hb
  go_wp2_with fail
  (with_reducible refine (shift_any n 12 b 0 _ (H.lens (List.Mem.head _)) MB.out).mono ?_)
  rintro e w4 ⟨rfl, hb⟩
  replace H := H.below hb
  clear hb
  go_wp2_with fail
  (with_reducible refine (rof_any n y 2 29 0 _ O1.out).mono ?_)
  rintro e w5 ⟨rfl, hb⟩
  replace H := H.below hb
  clear hb
  go_wp2_with fail
  replace H := (H.triple (w5.heap.size) (.int .i64 y) (.int .i64 2) (.int .i64 29) 35 rfl)
  (with_reducible refine (rof_any b (y + 1) 2 28 0 _ O2.out).mono ?_)
  rintro e w6 ⟨rfl, hb⟩
  replace H := H.below hb
  clear hb
  have cc0 := H.cell (w5.heap.size) 0 (.int .i64 y) (List.Mem.head _)
  have cc1 := H.cell (w5.heap.size) 1 (.int .i64 2) (List.Mem.tail _ (List.Mem.head _))
  have cc2 := H.cell (w5.heap.size) 2 (.int .i64 29) (List.Mem.tail _ (List.Mem.tail _ (List.Mem.head _)))
  have lc := H.lt (w5.heap.size) 0 (.int .i64 y) (List.Mem.head _)
  go_wp2_with fail
  clear cc0 cc1 cc2 lc
  replace H := (H.triple (w6.heap.size) (.int .i64 (y + 1)) (.int .i64 2) (.int .i64 28) 35 rfl)
  (with_reducible refine (rend_any n z 0 _ EZ.out).mono ?_)
  rintro e w7 ⟨rfl, hb⟩
  replace H := H.below hb
  clear hb
  have cc0 := H.cell (w5.heap.size) 0 (.int .i64 y) (List.Mem.tail _ (List.Mem.tail _ (List.Mem.tail _ (List.Mem.tail _ (List.Mem.tail _ (List.Mem.tail _ (List.Mem.head _)))))))
  have cc1 := H.cell (w5.heap.size) 1 (.int .i64 2) (List.Mem.tail _ (List.Mem.tail _ (List.Mem.tail _ (List.Mem.tail _ (List.Mem.tail _ (List.Mem.tail _ (List.Mem.tail _ (List.Mem.head _))))))))
  have cc2 := H.cell (w5.heap.size) 2 (.int .i64 29) (List.Mem.tail _ (List.Mem.tail _ (List.Mem.tail _ (List.Mem.tail _ (List.Mem.tail _ (List.Mem.tail _ (List.Mem.tail _ (List.Mem.tail _ (List.Mem.head _)))))))))
  have lc := H.lt (w5.heap.size) 0 (.int .i64 y) (List.Mem.tail _ (List.Mem.tail _ (List.Mem.tail _ (List.Mem.tail _ (List.Mem.tail _ (List.Mem.tail _ (List.Mem.head _)))))))
  have cd0 := H.cell (w6.heap.size) 0 (.int .i64 (y + 1)) (List.Mem.head _)
  have cd1 := H.cell (w6.heap.size) 1 (.int .i64 2) (List.Mem.tail _ (List.Mem.head _))
  have cd2 := H.cell (w6.heap.size) 2 (.int .i64 28) (List.Mem.tail _ (List.Mem.tail _ (List.Mem.head _)))
  have ld := H.lt (w6.heap.size) 0 (.int .i64 (y + 1)) (List.Mem.head _)
  go_wp2_with fail
  clear cc0 cc1 cc2 lc cd0 cd1 cd2 ld
  (with_reducible refine (move_any z k x 0 true _ (H.lens (List.Mem.tail _ (List.Mem.tail _ (List.Mem.tail _ (List.Mem.tail _ (List.Mem.tail _ (List.Mem.tail _ (List.Mem.tail _ (List.Mem.tail _ (List.Mem.tail _ (List.Mem.tail _ (List.Mem.tail _ (List.Mem.tail _ (List.Mem.head _)))))))))))))) MX.out).mono ?_)
  rintro e w8 ⟨rfl, hb⟩
  replace H := H.below hb
  clear hb
  go_wp2_with fail
  (with_reducible refine (last_any x true _ (H.lens (List.Mem.tail _ (List.Mem.tail _ (List.Mem.tail _ (List.Mem.tail _ (List.Mem.tail _ (List.Mem.tail _ (List.Mem.tail _ (List.Mem.tail _ (List.Mem.tail _ (List.Mem.tail _ (List.Mem.tail _ (List.Mem.tail _ (List.Mem.head _)))))))))))))) T1.out).mono ?_)
  rintro e w9 ⟨rfl, hb⟩
  replace H := H.below hb
  clear hb
  go_wp2_with fail
  go_ret
  exact ⟨rfl, H.old⟩

set_option maxHeartbeats 4000000 in
set_option maxRecDepth 100000 in
theorem meras_0nm0 (n k y m d b z x : Int) (w : World) (hL : Lens w) (h1 : 1 ≤ n ∧ n ≤ 3652059) (hk : -32768 ≤ k ∧ k < 32768) (ha : MoveIs n 4800 false (n + 146097) 0) (hb : MoveIs n 12 false b 0) (hc : DayIs n y m d 0) (hz : EndIs n z 0) (hx : MoveIs z k true x 0) (t1 : n + 146097 ≤ 3652059) (hd : DayIs b (y + 1) m d 0) (y1 : 1 ≤ y ∧ y ≤ 9999) (hm : m ≠ 2) (hl : LastIs x true) :
    Calls Tryd.prog 8 #[.int .i64 n, .int .i16 k] w fun e w' => e = .returned (.bool true) ∧ Below w.heap.size w w' := by
  have H := (Held.start w).add (f := lensF) hL
  clear hL
  have D1 : Hid (decide (1 ≤ n ∧ n ≤ 3652059) = true) := Lib.hid (by rw [decide_eq_true_eq]; exact h1)
  have MA := Lib.hid ha
  have MB := Lib.hid hb
  have O1 := Lib.hid hc
  have EZ := Lib.hid hz
  have MX := Lib.hid hx
  clear ha hb hc hz hx
  have O2 := Lib.hid hd
  clear hd
  have t2 : (m == 2) = false := beq_eq_false_iff_ne.2 hm
  clear hm
  have T1 := Lib.hid hl
  clear hl
  go_enter Tryd.func8, Tryd.ntmps8
  go_wp2_with fail
  (with_reducible refine (mshown_any _ (H.lens (List.Mem.head _))).mono ?_)
  rintro e w1 ⟨rfl, hb⟩
  replace H := H.below hb
  clear hb
  go_wp2_with fail
  (with_reducible refine (rday_is n true _ D1.out).mono ?_)
  rintro e w2 ⟨rfl, hb⟩
  replace H := H.below hb
  clear hb
  go_wp2_with fail
  (with_reducible refine (shift_any n 4800 (n + 146097) 0 _ (H.lens (List.Mem.head _)) MA.out).mono ?_)
  rintro e w3 ⟨rfl, hb⟩
  replace H := H.below hb
  clear hb
  go_wp2_with fail
  (with_reducible refine (shift_any n 12 b 0 _ (H.lens (List.Mem.head _)) MB.out).mono ?_)
  rintro e w4 ⟨rfl, hb⟩
  replace H := H.below hb
  clear hb
  go_wp2_with fail
  (with_reducible refine (rof_any n y m d 0 _ O1.out).mono ?_)
  rintro e w5 ⟨rfl, hb⟩
  replace H := H.below hb
  clear hb
  go_wp2_with fail
  replace H := (H.triple (w5.heap.size) (.int .i64 y) (.int .i64 m) (.int .i64 d) 35 rfl)
  (with_reducible refine (rof_any b (y + 1) m d 0 _ O2.out).mono ?_)
  rintro e w6 ⟨rfl, hb⟩
  replace H := H.below hb
  clear hb
  have cc0 := H.cell (w5.heap.size) 0 (.int .i64 y) (List.Mem.head _)
  have cc1 := H.cell (w5.heap.size) 1 (.int .i64 m) (List.Mem.tail _ (List.Mem.head _))
  have cc2 := H.cell (w5.heap.size) 2 (.int .i64 d) (List.Mem.tail _ (List.Mem.tail _ (List.Mem.head _)))
  have lc := H.lt (w5.heap.size) 0 (.int .i64 y) (List.Mem.head _)
  go_wp2_with fail
  clear cc0 cc1 cc2 lc
  replace H := (H.triple (w6.heap.size) (.int .i64 (y + 1)) (.int .i64 m) (.int .i64 d) 35 rfl)
  (with_reducible refine (rend_any n z 0 _ EZ.out).mono ?_)
  rintro e w7 ⟨rfl, hb⟩
  replace H := H.below hb
  clear hb
  have cc0 := H.cell (w5.heap.size) 0 (.int .i64 y) (List.Mem.tail _ (List.Mem.tail _ (List.Mem.tail _ (List.Mem.tail _ (List.Mem.tail _ (List.Mem.tail _ (List.Mem.head _)))))))
  have cc1 := H.cell (w5.heap.size) 1 (.int .i64 m) (List.Mem.tail _ (List.Mem.tail _ (List.Mem.tail _ (List.Mem.tail _ (List.Mem.tail _ (List.Mem.tail _ (List.Mem.tail _ (List.Mem.head _))))))))
  have cc2 := H.cell (w5.heap.size) 2 (.int .i64 d) (List.Mem.tail _ (List.Mem.tail _ (List.Mem.tail _ (List.Mem.tail _ (List.Mem.tail _ (List.Mem.tail _ (List.Mem.tail _ (List.Mem.tail _ (List.Mem.head _)))))))))
  have lc := H.lt (w5.heap.size) 0 (.int .i64 y) (List.Mem.tail _ (List.Mem.tail _ (List.Mem.tail _ (List.Mem.tail _ (List.Mem.tail _ (List.Mem.tail _ (List.Mem.head _)))))))
  have cd0 := H.cell (w6.heap.size) 0 (.int .i64 (y + 1)) (List.Mem.head _)
  have cd1 := H.cell (w6.heap.size) 1 (.int .i64 m) (List.Mem.tail _ (List.Mem.head _))
  have cd2 := H.cell (w6.heap.size) 2 (.int .i64 d) (List.Mem.tail _ (List.Mem.tail _ (List.Mem.head _)))
  have ld := H.lt (w6.heap.size) 0 (.int .i64 (y + 1)) (List.Mem.head _)
  go_wp2_with fail
  clear cc0 cc1 cc2 lc cd0 cd1 cd2 ld
  (with_reducible refine (move_any z k x 0 true _ (H.lens (List.Mem.tail _ (List.Mem.tail _ (List.Mem.tail _ (List.Mem.tail _ (List.Mem.tail _ (List.Mem.tail _ (List.Mem.tail _ (List.Mem.tail _ (List.Mem.tail _ (List.Mem.tail _ (List.Mem.tail _ (List.Mem.tail _ (List.Mem.head _)))))))))))))) MX.out).mono ?_)
  rintro e w8 ⟨rfl, hb⟩
  replace H := H.below hb
  clear hb
  go_wp2_with fail
  (with_reducible refine (last_any x true _ (H.lens (List.Mem.tail _ (List.Mem.tail _ (List.Mem.tail _ (List.Mem.tail _ (List.Mem.tail _ (List.Mem.tail _ (List.Mem.tail _ (List.Mem.tail _ (List.Mem.tail _ (List.Mem.tail _ (List.Mem.tail _ (List.Mem.tail _ (List.Mem.head _)))))))))))))) T1.out).mono ?_)
  rintro e w9 ⟨rfl, hb⟩
  replace H := H.below hb
  clear hb
  go_wp2_with fail
  go_ret
  exact ⟨rfl, H.old⟩

set_option maxHeartbeats 4000000 in
set_option maxRecDepth 100000 in
theorem meras_3nm0 (n k y m d b z x : Int) (w : World) (hL : Lens w) (h1 : 1 ≤ n ∧ n ≤ 3652059) (hk : -32768 ≤ k ∧ k < 32768) (ha : MoveIs n 4800 false 0 3) (hb : MoveIs n 12 false b 0) (hc : DayIs n y m d 0) (hz : EndIs n z 0) (hx : MoveIs z k true x 0) (t1 : ¬ n + 146097 ≤ 3652059) (hd : DayIs b (y + 1) m d 0) (y1 : 1 ≤ y ∧ y ≤ 9999) (hm : m ≠ 2) (hl : LastIs x true) :
    Calls Tryd.prog 8 #[.int .i64 n, .int .i16 k] w fun e w' => e = .returned (.bool true) ∧ Below w.heap.size w w' := by
  have H := (Held.start w).add (f := lensF) hL
  clear hL
  have D1 : Hid (decide (1 ≤ n ∧ n ≤ 3652059) = true) := Lib.hid (by rw [decide_eq_true_eq]; exact h1)
  have MA := Lib.hid ha
  have MB := Lib.hid hb
  have O1 := Lib.hid hc
  have EZ := Lib.hid hz
  have MX := Lib.hid hx
  clear ha hb hc hz hx
  have O2 := Lib.hid hd
  clear hd
  have t2 : (m == 2) = false := beq_eq_false_iff_ne.2 hm
  clear hm
  have T1 := Lib.hid hl
  clear hl
  go_enter Tryd.func8, Tryd.ntmps8
  go_wp2_with fail
  (with_reducible refine (mshown_any _ (H.lens (List.Mem.head _))).mono ?_)
  rintro e w1 ⟨rfl, hb⟩
  replace H := H.below hb
  clear hb
  go_wp2_with fail
  (with_reducible refine (rday_is n true _ D1.out).mono ?_)
  rintro e w2 ⟨rfl, hb⟩
  replace H := H.below hb
  clear hb
  go_wp2_with fail
  (with_reducible refine (shift_any n 4800 0 3 _ (H.lens (List.Mem.head _)) MA.out).mono ?_)
  rintro e w3 ⟨rfl, hb⟩
  replace H := H.below hb
  clear hb
  go_wp2_with fail
  (with_reducible refine (shift_any n 12 b 0 _ (H.lens (List.Mem.head _)) MB.out).mono ?_)
  rintro e w4 ⟨rfl, hb⟩
  replace H := H.below hb
  clear hb
  go_wp2_with fail
  (with_reducible refine (rof_any n y m d 0 _ O1.out).mono ?_)
  rintro e w5 ⟨rfl, hb⟩
  replace H := H.below hb
  clear hb
  go_wp2_with fail
  replace H := (H.triple (w5.heap.size) (.int .i64 y) (.int .i64 m) (.int .i64 d) 35 rfl)
  (with_reducible refine (rof_any b (y + 1) m d 0 _ O2.out).mono ?_)
  rintro e w6 ⟨rfl, hb⟩
  replace H := H.below hb
  clear hb
  have cc0 := H.cell (w5.heap.size) 0 (.int .i64 y) (List.Mem.head _)
  have cc1 := H.cell (w5.heap.size) 1 (.int .i64 m) (List.Mem.tail _ (List.Mem.head _))
  have cc2 := H.cell (w5.heap.size) 2 (.int .i64 d) (List.Mem.tail _ (List.Mem.tail _ (List.Mem.head _)))
  have lc := H.lt (w5.heap.size) 0 (.int .i64 y) (List.Mem.head _)
  go_wp2_with fail
  clear cc0 cc1 cc2 lc
  replace H := (H.triple (w6.heap.size) (.int .i64 (y + 1)) (.int .i64 m) (.int .i64 d) 35 rfl)
  (with_reducible refine (rend_any n z 0 _ EZ.out).mono ?_)
  rintro e w7 ⟨rfl, hb⟩
  replace H := H.below hb
  clear hb
  have cc0 := H.cell (w5.heap.size) 0 (.int .i64 y) (List.Mem.tail _ (List.Mem.tail _ (List.Mem.tail _ (List.Mem.tail _ (List.Mem.tail _ (List.Mem.tail _ (List.Mem.head _)))))))
  have cc1 := H.cell (w5.heap.size) 1 (.int .i64 m) (List.Mem.tail _ (List.Mem.tail _ (List.Mem.tail _ (List.Mem.tail _ (List.Mem.tail _ (List.Mem.tail _ (List.Mem.tail _ (List.Mem.head _))))))))
  have cc2 := H.cell (w5.heap.size) 2 (.int .i64 d) (List.Mem.tail _ (List.Mem.tail _ (List.Mem.tail _ (List.Mem.tail _ (List.Mem.tail _ (List.Mem.tail _ (List.Mem.tail _ (List.Mem.tail _ (List.Mem.head _)))))))))
  have lc := H.lt (w5.heap.size) 0 (.int .i64 y) (List.Mem.tail _ (List.Mem.tail _ (List.Mem.tail _ (List.Mem.tail _ (List.Mem.tail _ (List.Mem.tail _ (List.Mem.head _)))))))
  have cd0 := H.cell (w6.heap.size) 0 (.int .i64 (y + 1)) (List.Mem.head _)
  have cd1 := H.cell (w6.heap.size) 1 (.int .i64 m) (List.Mem.tail _ (List.Mem.head _))
  have cd2 := H.cell (w6.heap.size) 2 (.int .i64 d) (List.Mem.tail _ (List.Mem.tail _ (List.Mem.head _)))
  have ld := H.lt (w6.heap.size) 0 (.int .i64 (y + 1)) (List.Mem.head _)
  go_wp2_with fail
  clear cc0 cc1 cc2 lc cd0 cd1 cd2 ld
  (with_reducible refine (move_any z k x 0 true _ (H.lens (List.Mem.tail _ (List.Mem.tail _ (List.Mem.tail _ (List.Mem.tail _ (List.Mem.tail _ (List.Mem.tail _ (List.Mem.tail _ (List.Mem.tail _ (List.Mem.tail _ (List.Mem.tail _ (List.Mem.tail _ (List.Mem.tail _ (List.Mem.head _)))))))))))))) MX.out).mono ?_)
  rintro e w8 ⟨rfl, hb⟩
  replace H := H.below hb
  clear hb
  go_wp2_with fail
  (with_reducible refine (last_any x true _ (H.lens (List.Mem.tail _ (List.Mem.tail _ (List.Mem.tail _ (List.Mem.tail _ (List.Mem.tail _ (List.Mem.tail _ (List.Mem.tail _ (List.Mem.tail _ (List.Mem.tail _ (List.Mem.tail _ (List.Mem.tail _ (List.Mem.tail _ (List.Mem.head _)))))))))))))) T1.out).mono ?_)
  rintro e w9 ⟨rfl, hb⟩
  replace H := H.below hb
  clear hb
  go_wp2_with fail
  go_ret
  exact ⟨rfl, H.old⟩

set_option maxHeartbeats 4000000 in
set_option maxRecDepth 100000 in
theorem meras_0nd0 (n k y d b z x : Int) (w : World) (hL : Lens w) (h1 : 1 ≤ n ∧ n ≤ 3652059) (hk : -32768 ≤ k ∧ k < 32768) (ha : MoveIs n 4800 false (n + 146097) 0) (hb : MoveIs n 12 false b 0) (hc : DayIs n y 2 d 0) (hz : EndIs n z 0) (hx : MoveIs z k true x 0) (t1 : n + 146097 ≤ 3652059) (hd : DayIs b (y + 1) 2 d 0) (y1 : 1 ≤ y ∧ y ≤ 9999) (hm : d ≠ 29) (hl : LastIs x true) :
    Calls Tryd.prog 8 #[.int .i64 n, .int .i16 k] w fun e w' => e = .returned (.bool true) ∧ Below w.heap.size w w' := by
  have H := (Held.start w).add (f := lensF) hL
  clear hL
  have D1 : Hid (decide (1 ≤ n ∧ n ≤ 3652059) = true) := Lib.hid (by rw [decide_eq_true_eq]; exact h1)
  have MA := Lib.hid ha
  have MB := Lib.hid hb
  have O1 := Lib.hid hc
  have EZ := Lib.hid hz
  have MX := Lib.hid hx
  clear ha hb hc hz hx
  have O2 := Lib.hid hd
  clear hd
  have t2 : (d == 29) = false := beq_eq_false_iff_ne.2 hm
  clear hm
  have T1 := Lib.hid hl
  clear hl
  go_enter Tryd.func8, Tryd.ntmps8
  go_wp2_with fail
  (with_reducible refine (mshown_any _ (H.lens (List.Mem.head _))).mono ?_)
  rintro e w1 ⟨rfl, hb⟩
  replace H := H.below hb
  clear hb
  go_wp2_with fail
  (with_reducible refine (rday_is n true _ D1.out).mono ?_)
  rintro e w2 ⟨rfl, hb⟩
  replace H := H.below hb
  clear hb
  go_wp2_with fail
  (with_reducible refine (shift_any n 4800 (n + 146097) 0 _ (H.lens (List.Mem.head _)) MA.out).mono ?_)
  rintro e w3 ⟨rfl, hb⟩
  replace H := H.below hb
  clear hb
  go_wp2_with fail
  (with_reducible refine (shift_any n 12 b 0 _ (H.lens (List.Mem.head _)) MB.out).mono ?_)
  rintro e w4 ⟨rfl, hb⟩
  replace H := H.below hb
  clear hb
  go_wp2_with fail
  (with_reducible refine (rof_any n y 2 d 0 _ O1.out).mono ?_)
  rintro e w5 ⟨rfl, hb⟩
  replace H := H.below hb
  clear hb
  go_wp2_with fail
  replace H := (H.triple (w5.heap.size) (.int .i64 y) (.int .i64 2) (.int .i64 d) 35 rfl)
  (with_reducible refine (rof_any b (y + 1) 2 d 0 _ O2.out).mono ?_)
  rintro e w6 ⟨rfl, hb⟩
  replace H := H.below hb
  clear hb
  have cc0 := H.cell (w5.heap.size) 0 (.int .i64 y) (List.Mem.head _)
  have cc1 := H.cell (w5.heap.size) 1 (.int .i64 2) (List.Mem.tail _ (List.Mem.head _))
  have cc2 := H.cell (w5.heap.size) 2 (.int .i64 d) (List.Mem.tail _ (List.Mem.tail _ (List.Mem.head _)))
  have lc := H.lt (w5.heap.size) 0 (.int .i64 y) (List.Mem.head _)
  go_wp2_with fail
  clear cc0 cc1 cc2 lc
  replace H := (H.triple (w6.heap.size) (.int .i64 (y + 1)) (.int .i64 2) (.int .i64 d) 35 rfl)
  (with_reducible refine (rend_any n z 0 _ EZ.out).mono ?_)
  rintro e w7 ⟨rfl, hb⟩
  replace H := H.below hb
  clear hb
  have cc0 := H.cell (w5.heap.size) 0 (.int .i64 y) (List.Mem.tail _ (List.Mem.tail _ (List.Mem.tail _ (List.Mem.tail _ (List.Mem.tail _ (List.Mem.tail _ (List.Mem.head _)))))))
  have cc1 := H.cell (w5.heap.size) 1 (.int .i64 2) (List.Mem.tail _ (List.Mem.tail _ (List.Mem.tail _ (List.Mem.tail _ (List.Mem.tail _ (List.Mem.tail _ (List.Mem.tail _ (List.Mem.head _))))))))
  have cc2 := H.cell (w5.heap.size) 2 (.int .i64 d) (List.Mem.tail _ (List.Mem.tail _ (List.Mem.tail _ (List.Mem.tail _ (List.Mem.tail _ (List.Mem.tail _ (List.Mem.tail _ (List.Mem.tail _ (List.Mem.head _)))))))))
  have lc := H.lt (w5.heap.size) 0 (.int .i64 y) (List.Mem.tail _ (List.Mem.tail _ (List.Mem.tail _ (List.Mem.tail _ (List.Mem.tail _ (List.Mem.tail _ (List.Mem.head _)))))))
  have cd0 := H.cell (w6.heap.size) 0 (.int .i64 (y + 1)) (List.Mem.head _)
  have cd1 := H.cell (w6.heap.size) 1 (.int .i64 2) (List.Mem.tail _ (List.Mem.head _))
  have cd2 := H.cell (w6.heap.size) 2 (.int .i64 d) (List.Mem.tail _ (List.Mem.tail _ (List.Mem.head _)))
  have ld := H.lt (w6.heap.size) 0 (.int .i64 (y + 1)) (List.Mem.head _)
  go_wp2_with fail
  clear cc0 cc1 cc2 lc cd0 cd1 cd2 ld
  (with_reducible refine (move_any z k x 0 true _ (H.lens (List.Mem.tail _ (List.Mem.tail _ (List.Mem.tail _ (List.Mem.tail _ (List.Mem.tail _ (List.Mem.tail _ (List.Mem.tail _ (List.Mem.tail _ (List.Mem.tail _ (List.Mem.tail _ (List.Mem.tail _ (List.Mem.tail _ (List.Mem.head _)))))))))))))) MX.out).mono ?_)
  rintro e w8 ⟨rfl, hb⟩
  replace H := H.below hb
  clear hb
  go_wp2_with fail
  (with_reducible refine (last_any x true _ (H.lens (List.Mem.tail _ (List.Mem.tail _ (List.Mem.tail _ (List.Mem.tail _ (List.Mem.tail _ (List.Mem.tail _ (List.Mem.tail _ (List.Mem.tail _ (List.Mem.tail _ (List.Mem.tail _ (List.Mem.tail _ (List.Mem.tail _ (List.Mem.head _)))))))))))))) T1.out).mono ?_)
  rintro e w9 ⟨rfl, hb⟩
  replace H := H.below hb
  clear hb
  go_wp2_with fail
  go_ret
  exact ⟨rfl, H.old⟩

set_option maxHeartbeats 4000000 in
set_option maxRecDepth 100000 in
theorem meras_3nd0 (n k y d b z x : Int) (w : World) (hL : Lens w) (h1 : 1 ≤ n ∧ n ≤ 3652059) (hk : -32768 ≤ k ∧ k < 32768) (ha : MoveIs n 4800 false 0 3) (hb : MoveIs n 12 false b 0) (hc : DayIs n y 2 d 0) (hz : EndIs n z 0) (hx : MoveIs z k true x 0) (t1 : ¬ n + 146097 ≤ 3652059) (hd : DayIs b (y + 1) 2 d 0) (y1 : 1 ≤ y ∧ y ≤ 9999) (hm : d ≠ 29) (hl : LastIs x true) :
    Calls Tryd.prog 8 #[.int .i64 n, .int .i16 k] w fun e w' => e = .returned (.bool true) ∧ Below w.heap.size w w' := by
  have H := (Held.start w).add (f := lensF) hL
  clear hL
  have D1 : Hid (decide (1 ≤ n ∧ n ≤ 3652059) = true) := Lib.hid (by rw [decide_eq_true_eq]; exact h1)
  have MA := Lib.hid ha
  have MB := Lib.hid hb
  have O1 := Lib.hid hc
  have EZ := Lib.hid hz
  have MX := Lib.hid hx
  clear ha hb hc hz hx
  have O2 := Lib.hid hd
  clear hd
  have t2 : (d == 29) = false := beq_eq_false_iff_ne.2 hm
  clear hm
  have T1 := Lib.hid hl
  clear hl
  go_enter Tryd.func8, Tryd.ntmps8
  go_wp2_with fail
  (with_reducible refine (mshown_any _ (H.lens (List.Mem.head _))).mono ?_)
  rintro e w1 ⟨rfl, hb⟩
  replace H := H.below hb
  clear hb
  go_wp2_with fail
  (with_reducible refine (rday_is n true _ D1.out).mono ?_)
  rintro e w2 ⟨rfl, hb⟩
  replace H := H.below hb
  clear hb
  go_wp2_with fail
  (with_reducible refine (shift_any n 4800 0 3 _ (H.lens (List.Mem.head _)) MA.out).mono ?_)
  rintro e w3 ⟨rfl, hb⟩
  replace H := H.below hb
  clear hb
  go_wp2_with fail
  (with_reducible refine (shift_any n 12 b 0 _ (H.lens (List.Mem.head _)) MB.out).mono ?_)
  rintro e w4 ⟨rfl, hb⟩
  replace H := H.below hb
  clear hb
  go_wp2_with fail
  (with_reducible refine (rof_any n y 2 d 0 _ O1.out).mono ?_)
  rintro e w5 ⟨rfl, hb⟩
  replace H := H.below hb
  clear hb
  go_wp2_with fail
  replace H := (H.triple (w5.heap.size) (.int .i64 y) (.int .i64 2) (.int .i64 d) 35 rfl)
  (with_reducible refine (rof_any b (y + 1) 2 d 0 _ O2.out).mono ?_)
  rintro e w6 ⟨rfl, hb⟩
  replace H := H.below hb
  clear hb
  have cc0 := H.cell (w5.heap.size) 0 (.int .i64 y) (List.Mem.head _)
  have cc1 := H.cell (w5.heap.size) 1 (.int .i64 2) (List.Mem.tail _ (List.Mem.head _))
  have cc2 := H.cell (w5.heap.size) 2 (.int .i64 d) (List.Mem.tail _ (List.Mem.tail _ (List.Mem.head _)))
  have lc := H.lt (w5.heap.size) 0 (.int .i64 y) (List.Mem.head _)
  go_wp2_with fail
  clear cc0 cc1 cc2 lc
  replace H := (H.triple (w6.heap.size) (.int .i64 (y + 1)) (.int .i64 2) (.int .i64 d) 35 rfl)
  (with_reducible refine (rend_any n z 0 _ EZ.out).mono ?_)
  rintro e w7 ⟨rfl, hb⟩
  replace H := H.below hb
  clear hb
  have cc0 := H.cell (w5.heap.size) 0 (.int .i64 y) (List.Mem.tail _ (List.Mem.tail _ (List.Mem.tail _ (List.Mem.tail _ (List.Mem.tail _ (List.Mem.tail _ (List.Mem.head _)))))))
  have cc1 := H.cell (w5.heap.size) 1 (.int .i64 2) (List.Mem.tail _ (List.Mem.tail _ (List.Mem.tail _ (List.Mem.tail _ (List.Mem.tail _ (List.Mem.tail _ (List.Mem.tail _ (List.Mem.head _))))))))
  have cc2 := H.cell (w5.heap.size) 2 (.int .i64 d) (List.Mem.tail _ (List.Mem.tail _ (List.Mem.tail _ (List.Mem.tail _ (List.Mem.tail _ (List.Mem.tail _ (List.Mem.tail _ (List.Mem.tail _ (List.Mem.head _)))))))))
  have lc := H.lt (w5.heap.size) 0 (.int .i64 y) (List.Mem.tail _ (List.Mem.tail _ (List.Mem.tail _ (List.Mem.tail _ (List.Mem.tail _ (List.Mem.tail _ (List.Mem.head _)))))))
  have cd0 := H.cell (w6.heap.size) 0 (.int .i64 (y + 1)) (List.Mem.head _)
  have cd1 := H.cell (w6.heap.size) 1 (.int .i64 2) (List.Mem.tail _ (List.Mem.head _))
  have cd2 := H.cell (w6.heap.size) 2 (.int .i64 d) (List.Mem.tail _ (List.Mem.tail _ (List.Mem.head _)))
  have ld := H.lt (w6.heap.size) 0 (.int .i64 (y + 1)) (List.Mem.head _)
  go_wp2_with fail
  clear cc0 cc1 cc2 lc cd0 cd1 cd2 ld
  (with_reducible refine (move_any z k x 0 true _ (H.lens (List.Mem.tail _ (List.Mem.tail _ (List.Mem.tail _ (List.Mem.tail _ (List.Mem.tail _ (List.Mem.tail _ (List.Mem.tail _ (List.Mem.tail _ (List.Mem.tail _ (List.Mem.tail _ (List.Mem.tail _ (List.Mem.tail _ (List.Mem.head _)))))))))))))) MX.out).mono ?_)
  rintro e w8 ⟨rfl, hb⟩
  replace H := H.below hb
  clear hb
  go_wp2_with fail
  (with_reducible refine (last_any x true _ (H.lens (List.Mem.tail _ (List.Mem.tail _ (List.Mem.tail _ (List.Mem.tail _ (List.Mem.tail _ (List.Mem.tail _ (List.Mem.tail _ (List.Mem.tail _ (List.Mem.tail _ (List.Mem.tail _ (List.Mem.tail _ (List.Mem.tail _ (List.Mem.head _)))))))))))))) T1.out).mono ?_)
  rintro e w9 ⟨rfl, hb⟩
  replace H := H.below hb
  clear hb
  go_wp2_with fail
  go_ret
  exact ⟨rfl, H.old⟩

set_option maxHeartbeats 4000000 in
set_option maxRecDepth 100000 in
theorem meras_3none0 (n k y m d z x : Int) (w : World) (hL : Lens w) (h1 : 1 ≤ n ∧ n ≤ 3652059) (hk : -32768 ≤ k ∧ k < 32768) (ha : MoveIs n 4800 false 0 3) (hb : MoveIs n 12 false 0 3) (hc : DayIs n y m d 0) (hz : EndIs n z 0) (hx : MoveIs z k true x 0) (t1 : ¬ n + 146097 ≤ 3652059) (hl : LastIs x true) :
    Calls Tryd.prog 8 #[.int .i64 n, .int .i16 k] w fun e w' => e = .returned (.bool true) ∧ Below w.heap.size w w' := by
  have H := (Held.start w).add (f := lensF) hL
  clear hL
  have D1 : Hid (decide (1 ≤ n ∧ n ≤ 3652059) = true) := Lib.hid (by rw [decide_eq_true_eq]; exact h1)
  have MA := Lib.hid ha
  have MB := Lib.hid hb
  have O1 := Lib.hid hc
  have EZ := Lib.hid hz
  have MX := Lib.hid hx
  clear ha hb hc hz hx
  have T1 := Lib.hid hl
  clear hl
  go_enter Tryd.func8, Tryd.ntmps8
  go_wp2_with fail
  (with_reducible refine (mshown_any _ (H.lens (List.Mem.head _))).mono ?_)
  rintro e w1 ⟨rfl, hb⟩
  replace H := H.below hb
  clear hb
  go_wp2_with fail
  (with_reducible refine (rday_is n true _ D1.out).mono ?_)
  rintro e w2 ⟨rfl, hb⟩
  replace H := H.below hb
  clear hb
  go_wp2_with fail
  (with_reducible refine (shift_any n 4800 0 3 _ (H.lens (List.Mem.head _)) MA.out).mono ?_)
  rintro e w3 ⟨rfl, hb⟩
  replace H := H.below hb
  clear hb
  go_wp2_with fail
  (with_reducible refine (shift_any n 12 0 3 _ (H.lens (List.Mem.head _)) MB.out).mono ?_)
  rintro e w4 ⟨rfl, hb⟩
  replace H := H.below hb
  clear hb
  go_wp2_with fail
  (with_reducible refine (rof_any n y m d 0 _ O1.out).mono ?_)
  rintro e w5 ⟨rfl, hb⟩
  replace H := H.below hb
  clear hb
  go_wp2_with fail
  replace H := (H.triple (w5.heap.size) (.int .i64 y) (.int .i64 m) (.int .i64 d) 35 rfl)
  (with_reducible refine (rend_any n z 0 _ EZ.out).mono ?_)
  rintro e w6 ⟨rfl, hb⟩
  replace H := H.below hb
  clear hb
  have cc0 := H.cell (w5.heap.size) 0 (.int .i64 y) (List.Mem.head _)
  have cc1 := H.cell (w5.heap.size) 1 (.int .i64 m) (List.Mem.tail _ (List.Mem.head _))
  have cc2 := H.cell (w5.heap.size) 2 (.int .i64 d) (List.Mem.tail _ (List.Mem.tail _ (List.Mem.head _)))
  have lc := H.lt (w5.heap.size) 0 (.int .i64 y) (List.Mem.head _)
  go_wp2_with fail
  clear cc0 cc1 cc2 lc
  (with_reducible refine (move_any z k x 0 true _ (H.lens (List.Mem.tail _ (List.Mem.tail _ (List.Mem.tail _ (List.Mem.tail _ (List.Mem.tail _ (List.Mem.tail _ (List.Mem.head _)))))))) MX.out).mono ?_)
  rintro e w7 ⟨rfl, hb⟩
  replace H := H.below hb
  clear hb
  go_wp2_with fail
  (with_reducible refine (last_any x true _ (H.lens (List.Mem.tail _ (List.Mem.tail _ (List.Mem.tail _ (List.Mem.tail _ (List.Mem.tail _ (List.Mem.tail _ (List.Mem.head _)))))))) T1.out).mono ?_)
  rintro e w8 ⟨rfl, hb⟩
  replace H := H.below hb
  clear hb
  go_wp2_with fail
  go_ret
  exact ⟨rfl, H.old⟩

set_option maxHeartbeats 4000000 in
set_option maxRecDepth 100000 in
theorem meras_0short3 (n k y b z : Int) (w : World) (hL : Lens w) (h1 : 1 ≤ n ∧ n ≤ 3652059) (hk : -32768 ≤ k ∧ k < 32768) (ha : MoveIs n 4800 false (n + 146097) 0) (hb : MoveIs n 12 false b 0) (hc : DayIs n y 2 29 0) (hz : EndIs n z 0) (hx : MoveIs z k true 0 3) (t1 : n + 146097 ≤ 3652059) (hd : DayIs b (y + 1) 2 28 0) (y1 : 1 ≤ y ∧ y ≤ 9999) :
    Calls Tryd.prog 8 #[.int .i64 n, .int .i16 k] w fun e w' => e = .returned (.bool true) ∧ Below w.heap.size w w' := by
  have H := (Held.start w).add (f := lensF) hL
  clear hL
  have D1 : Hid (decide (1 ≤ n ∧ n ≤ 3652059) = true) := Lib.hid (by rw [decide_eq_true_eq]; exact h1)
  have MA := Lib.hid ha
  have MB := Lib.hid hb
  have O1 := Lib.hid hc
  have EZ := Lib.hid hz
  have MX := Lib.hid hx
  clear ha hb hc hz hx
  have O2 := Lib.hid hd
  clear hd
  go_enter Tryd.func8, Tryd.ntmps8
  go_wp2_with fail
  (with_reducible refine (mshown_any _ (H.lens (List.Mem.head _))).mono ?_)
  rintro e w1 ⟨rfl, hb⟩
  replace H := H.below hb
  clear hb
  go_wp2_with fail
  (with_reducible refine (rday_is n true _ D1.out).mono ?_)
  rintro e w2 ⟨rfl, hb⟩
  replace H := H.below hb
  clear hb
  go_wp2_with fail
  (with_reducible refine (shift_any n 4800 (n + 146097) 0 _ (H.lens (List.Mem.head _)) MA.out).mono ?_)
  rintro e w3 ⟨rfl, hb⟩
  replace H := H.below hb
  clear hb
  go_wp2_with fail
  (with_reducible refine (shift_any n 12 b 0 _ (H.lens (List.Mem.head _)) MB.out).mono ?_)
  rintro e w4 ⟨rfl, hb⟩
  replace H := H.below hb
  clear hb
  go_wp2_with fail
  (with_reducible refine (rof_any n y 2 29 0 _ O1.out).mono ?_)
  rintro e w5 ⟨rfl, hb⟩
  replace H := H.below hb
  clear hb
  go_wp2_with fail
  replace H := (H.triple (w5.heap.size) (.int .i64 y) (.int .i64 2) (.int .i64 29) 35 rfl)
  (with_reducible refine (rof_any b (y + 1) 2 28 0 _ O2.out).mono ?_)
  rintro e w6 ⟨rfl, hb⟩
  replace H := H.below hb
  clear hb
  have cc0 := H.cell (w5.heap.size) 0 (.int .i64 y) (List.Mem.head _)
  have cc1 := H.cell (w5.heap.size) 1 (.int .i64 2) (List.Mem.tail _ (List.Mem.head _))
  have cc2 := H.cell (w5.heap.size) 2 (.int .i64 29) (List.Mem.tail _ (List.Mem.tail _ (List.Mem.head _)))
  have lc := H.lt (w5.heap.size) 0 (.int .i64 y) (List.Mem.head _)
  go_wp2_with fail
  clear cc0 cc1 cc2 lc
  replace H := (H.triple (w6.heap.size) (.int .i64 (y + 1)) (.int .i64 2) (.int .i64 28) 35 rfl)
  (with_reducible refine (rend_any n z 0 _ EZ.out).mono ?_)
  rintro e w7 ⟨rfl, hb⟩
  replace H := H.below hb
  clear hb
  have cc0 := H.cell (w5.heap.size) 0 (.int .i64 y) (List.Mem.tail _ (List.Mem.tail _ (List.Mem.tail _ (List.Mem.tail _ (List.Mem.tail _ (List.Mem.tail _ (List.Mem.head _)))))))
  have cc1 := H.cell (w5.heap.size) 1 (.int .i64 2) (List.Mem.tail _ (List.Mem.tail _ (List.Mem.tail _ (List.Mem.tail _ (List.Mem.tail _ (List.Mem.tail _ (List.Mem.tail _ (List.Mem.head _))))))))
  have cc2 := H.cell (w5.heap.size) 2 (.int .i64 29) (List.Mem.tail _ (List.Mem.tail _ (List.Mem.tail _ (List.Mem.tail _ (List.Mem.tail _ (List.Mem.tail _ (List.Mem.tail _ (List.Mem.tail _ (List.Mem.head _)))))))))
  have lc := H.lt (w5.heap.size) 0 (.int .i64 y) (List.Mem.tail _ (List.Mem.tail _ (List.Mem.tail _ (List.Mem.tail _ (List.Mem.tail _ (List.Mem.tail _ (List.Mem.head _)))))))
  have cd0 := H.cell (w6.heap.size) 0 (.int .i64 (y + 1)) (List.Mem.head _)
  have cd1 := H.cell (w6.heap.size) 1 (.int .i64 2) (List.Mem.tail _ (List.Mem.head _))
  have cd2 := H.cell (w6.heap.size) 2 (.int .i64 28) (List.Mem.tail _ (List.Mem.tail _ (List.Mem.head _)))
  have ld := H.lt (w6.heap.size) 0 (.int .i64 (y + 1)) (List.Mem.head _)
  go_wp2_with fail
  clear cc0 cc1 cc2 lc cd0 cd1 cd2 ld
  (with_reducible refine (move_any z k 0 3 true _ (H.lens (List.Mem.tail _ (List.Mem.tail _ (List.Mem.tail _ (List.Mem.tail _ (List.Mem.tail _ (List.Mem.tail _ (List.Mem.tail _ (List.Mem.tail _ (List.Mem.tail _ (List.Mem.tail _ (List.Mem.tail _ (List.Mem.tail _ (List.Mem.head _)))))))))))))) MX.out).mono ?_)
  rintro e w8 ⟨rfl, hb⟩
  replace H := H.below hb
  clear hb
  go_wp2_with fail
  go_ret
  exact ⟨rfl, H.old⟩

set_option maxHeartbeats 4000000 in
set_option maxRecDepth 100000 in
theorem meras_3short3 (n k y b z : Int) (w : World) (hL : Lens w) (h1 : 1 ≤ n ∧ n ≤ 3652059) (hk : -32768 ≤ k ∧ k < 32768) (ha : MoveIs n 4800 false 0 3) (hb : MoveIs n 12 false b 0) (hc : DayIs n y 2 29 0) (hz : EndIs n z 0) (hx : MoveIs z k true 0 3) (t1 : ¬ n + 146097 ≤ 3652059) (hd : DayIs b (y + 1) 2 28 0) (y1 : 1 ≤ y ∧ y ≤ 9999) :
    Calls Tryd.prog 8 #[.int .i64 n, .int .i16 k] w fun e w' => e = .returned (.bool true) ∧ Below w.heap.size w w' := by
  have H := (Held.start w).add (f := lensF) hL
  clear hL
  have D1 : Hid (decide (1 ≤ n ∧ n ≤ 3652059) = true) := Lib.hid (by rw [decide_eq_true_eq]; exact h1)
  have MA := Lib.hid ha
  have MB := Lib.hid hb
  have O1 := Lib.hid hc
  have EZ := Lib.hid hz
  have MX := Lib.hid hx
  clear ha hb hc hz hx
  have O2 := Lib.hid hd
  clear hd
  go_enter Tryd.func8, Tryd.ntmps8
  go_wp2_with fail
  (with_reducible refine (mshown_any _ (H.lens (List.Mem.head _))).mono ?_)
  rintro e w1 ⟨rfl, hb⟩
  replace H := H.below hb
  clear hb
  go_wp2_with fail
  (with_reducible refine (rday_is n true _ D1.out).mono ?_)
  rintro e w2 ⟨rfl, hb⟩
  replace H := H.below hb
  clear hb
  go_wp2_with fail
  (with_reducible refine (shift_any n 4800 0 3 _ (H.lens (List.Mem.head _)) MA.out).mono ?_)
  rintro e w3 ⟨rfl, hb⟩
  replace H := H.below hb
  clear hb
  go_wp2_with fail
  (with_reducible refine (shift_any n 12 b 0 _ (H.lens (List.Mem.head _)) MB.out).mono ?_)
  rintro e w4 ⟨rfl, hb⟩
  replace H := H.below hb
  clear hb
  go_wp2_with fail
  (with_reducible refine (rof_any n y 2 29 0 _ O1.out).mono ?_)
  rintro e w5 ⟨rfl, hb⟩
  replace H := H.below hb
  clear hb
  go_wp2_with fail
  replace H := (H.triple (w5.heap.size) (.int .i64 y) (.int .i64 2) (.int .i64 29) 35 rfl)
  (with_reducible refine (rof_any b (y + 1) 2 28 0 _ O2.out).mono ?_)
  rintro e w6 ⟨rfl, hb⟩
  replace H := H.below hb
  clear hb
  have cc0 := H.cell (w5.heap.size) 0 (.int .i64 y) (List.Mem.head _)
  have cc1 := H.cell (w5.heap.size) 1 (.int .i64 2) (List.Mem.tail _ (List.Mem.head _))
  have cc2 := H.cell (w5.heap.size) 2 (.int .i64 29) (List.Mem.tail _ (List.Mem.tail _ (List.Mem.head _)))
  have lc := H.lt (w5.heap.size) 0 (.int .i64 y) (List.Mem.head _)
  go_wp2_with fail
  clear cc0 cc1 cc2 lc
  replace H := (H.triple (w6.heap.size) (.int .i64 (y + 1)) (.int .i64 2) (.int .i64 28) 35 rfl)
  (with_reducible refine (rend_any n z 0 _ EZ.out).mono ?_)
  rintro e w7 ⟨rfl, hb⟩
  replace H := H.below hb
  clear hb
  have cc0 := H.cell (w5.heap.size) 0 (.int .i64 y) (List.Mem.tail _ (List.Mem.tail _ (List.Mem.tail _ (List.Mem.tail _ (List.Mem.tail _ (List.Mem.tail _ (List.Mem.head _)))))))
  have cc1 := H.cell (w5.heap.size) 1 (.int .i64 2) (List.Mem.tail _ (List.Mem.tail _ (List.Mem.tail _ (List.Mem.tail _ (List.Mem.tail _ (List.Mem.tail _ (List.Mem.tail _ (List.Mem.head _))))))))
  have cc2 := H.cell (w5.heap.size) 2 (.int .i64 29) (List.Mem.tail _ (List.Mem.tail _ (List.Mem.tail _ (List.Mem.tail _ (List.Mem.tail _ (List.Mem.tail _ (List.Mem.tail _ (List.Mem.tail _ (List.Mem.head _)))))))))
  have lc := H.lt (w5.heap.size) 0 (.int .i64 y) (List.Mem.tail _ (List.Mem.tail _ (List.Mem.tail _ (List.Mem.tail _ (List.Mem.tail _ (List.Mem.tail _ (List.Mem.head _)))))))
  have cd0 := H.cell (w6.heap.size) 0 (.int .i64 (y + 1)) (List.Mem.head _)
  have cd1 := H.cell (w6.heap.size) 1 (.int .i64 2) (List.Mem.tail _ (List.Mem.head _))
  have cd2 := H.cell (w6.heap.size) 2 (.int .i64 28) (List.Mem.tail _ (List.Mem.tail _ (List.Mem.head _)))
  have ld := H.lt (w6.heap.size) 0 (.int .i64 (y + 1)) (List.Mem.head _)
  go_wp2_with fail
  clear cc0 cc1 cc2 lc cd0 cd1 cd2 ld
  (with_reducible refine (move_any z k 0 3 true _ (H.lens (List.Mem.tail _ (List.Mem.tail _ (List.Mem.tail _ (List.Mem.tail _ (List.Mem.tail _ (List.Mem.tail _ (List.Mem.tail _ (List.Mem.tail _ (List.Mem.tail _ (List.Mem.tail _ (List.Mem.tail _ (List.Mem.tail _ (List.Mem.head _)))))))))))))) MX.out).mono ?_)
  rintro e w8 ⟨rfl, hb⟩
  replace H := H.below hb
  clear hb
  go_wp2_with fail
  go_ret
  exact ⟨rfl, H.old⟩

set_option maxHeartbeats 4000000 in
set_option maxRecDepth 100000 in
theorem meras_0nm3 (n k y m d b z : Int) (w : World) (hL : Lens w) (h1 : 1 ≤ n ∧ n ≤ 3652059) (hk : -32768 ≤ k ∧ k < 32768) (ha : MoveIs n 4800 false (n + 146097) 0) (hb : MoveIs n 12 false b 0) (hc : DayIs n y m d 0) (hz : EndIs n z 0) (hx : MoveIs z k true 0 3) (t1 : n + 146097 ≤ 3652059) (hd : DayIs b (y + 1) m d 0) (y1 : 1 ≤ y ∧ y ≤ 9999) (hm : m ≠ 2) :
    Calls Tryd.prog 8 #[.int .i64 n, .int .i16 k] w fun e w' => e = .returned (.bool true) ∧ Below w.heap.size w w' := by
  have H := (Held.start w).add (f := lensF) hL
  clear hL
  have D1 : Hid (decide (1 ≤ n ∧ n ≤ 3652059) = true) := Lib.hid (by rw [decide_eq_true_eq]; exact h1)
  have MA := Lib.hid ha
  have MB := Lib.hid hb
  have O1 := Lib.hid hc
  have EZ := Lib.hid hz
  have MX := Lib.hid hx
  clear ha hb hc hz hx
  have O2 := Lib.hid hd
  clear hd
  have t2 : (m == 2) = false := beq_eq_false_iff_ne.2 hm
  clear hm
  go_enter Tryd.func8, Tryd.ntmps8
  go_wp2_with fail
  (with_reducible refine (mshown_any _ (H.lens (List.Mem.head _))).mono ?_)
  rintro e w1 ⟨rfl, hb⟩
  replace H := H.below hb
  clear hb
  go_wp2_with fail
  (with_reducible refine (rday_is n true _ D1.out).mono ?_)
  rintro e w2 ⟨rfl, hb⟩
  replace H := H.below hb
  clear hb
  go_wp2_with fail
  (with_reducible refine (shift_any n 4800 (n + 146097) 0 _ (H.lens (List.Mem.head _)) MA.out).mono ?_)
  rintro e w3 ⟨rfl, hb⟩
  replace H := H.below hb
  clear hb
  go_wp2_with fail
  (with_reducible refine (shift_any n 12 b 0 _ (H.lens (List.Mem.head _)) MB.out).mono ?_)
  rintro e w4 ⟨rfl, hb⟩
  replace H := H.below hb
  clear hb
  go_wp2_with fail
  (with_reducible refine (rof_any n y m d 0 _ O1.out).mono ?_)
  rintro e w5 ⟨rfl, hb⟩
  replace H := H.below hb
  clear hb
  go_wp2_with fail
  replace H := (H.triple (w5.heap.size) (.int .i64 y) (.int .i64 m) (.int .i64 d) 35 rfl)
  (with_reducible refine (rof_any b (y + 1) m d 0 _ O2.out).mono ?_)
  rintro e w6 ⟨rfl, hb⟩
  replace H := H.below hb
  clear hb
  have cc0 := H.cell (w5.heap.size) 0 (.int .i64 y) (List.Mem.head _)
  have cc1 := H.cell (w5.heap.size) 1 (.int .i64 m) (List.Mem.tail _ (List.Mem.head _))
  have cc2 := H.cell (w5.heap.size) 2 (.int .i64 d) (List.Mem.tail _ (List.Mem.tail _ (List.Mem.head _)))
  have lc := H.lt (w5.heap.size) 0 (.int .i64 y) (List.Mem.head _)
  go_wp2_with fail
  clear cc0 cc1 cc2 lc
  replace H := (H.triple (w6.heap.size) (.int .i64 (y + 1)) (.int .i64 m) (.int .i64 d) 35 rfl)
  (with_reducible refine (rend_any n z 0 _ EZ.out).mono ?_)
  rintro e w7 ⟨rfl, hb⟩
  replace H := H.below hb
  clear hb
  have cc0 := H.cell (w5.heap.size) 0 (.int .i64 y) (List.Mem.tail _ (List.Mem.tail _ (List.Mem.tail _ (List.Mem.tail _ (List.Mem.tail _ (List.Mem.tail _ (List.Mem.head _)))))))
  have cc1 := H.cell (w5.heap.size) 1 (.int .i64 m) (List.Mem.tail _ (List.Mem.tail _ (List.Mem.tail _ (List.Mem.tail _ (List.Mem.tail _ (List.Mem.tail _ (List.Mem.tail _ (List.Mem.head _))))))))
  have cc2 := H.cell (w5.heap.size) 2 (.int .i64 d) (List.Mem.tail _ (List.Mem.tail _ (List.Mem.tail _ (List.Mem.tail _ (List.Mem.tail _ (List.Mem.tail _ (List.Mem.tail _ (List.Mem.tail _ (List.Mem.head _)))))))))
  have lc := H.lt (w5.heap.size) 0 (.int .i64 y) (List.Mem.tail _ (List.Mem.tail _ (List.Mem.tail _ (List.Mem.tail _ (List.Mem.tail _ (List.Mem.tail _ (List.Mem.head _)))))))
  have cd0 := H.cell (w6.heap.size) 0 (.int .i64 (y + 1)) (List.Mem.head _)
  have cd1 := H.cell (w6.heap.size) 1 (.int .i64 m) (List.Mem.tail _ (List.Mem.head _))
  have cd2 := H.cell (w6.heap.size) 2 (.int .i64 d) (List.Mem.tail _ (List.Mem.tail _ (List.Mem.head _)))
  have ld := H.lt (w6.heap.size) 0 (.int .i64 (y + 1)) (List.Mem.head _)
  go_wp2_with fail
  clear cc0 cc1 cc2 lc cd0 cd1 cd2 ld
  (with_reducible refine (move_any z k 0 3 true _ (H.lens (List.Mem.tail _ (List.Mem.tail _ (List.Mem.tail _ (List.Mem.tail _ (List.Mem.tail _ (List.Mem.tail _ (List.Mem.tail _ (List.Mem.tail _ (List.Mem.tail _ (List.Mem.tail _ (List.Mem.tail _ (List.Mem.tail _ (List.Mem.head _)))))))))))))) MX.out).mono ?_)
  rintro e w8 ⟨rfl, hb⟩
  replace H := H.below hb
  clear hb
  go_wp2_with fail
  go_ret
  exact ⟨rfl, H.old⟩

set_option maxHeartbeats 4000000 in
set_option maxRecDepth 100000 in
theorem meras_3nm3 (n k y m d b z : Int) (w : World) (hL : Lens w) (h1 : 1 ≤ n ∧ n ≤ 3652059) (hk : -32768 ≤ k ∧ k < 32768) (ha : MoveIs n 4800 false 0 3) (hb : MoveIs n 12 false b 0) (hc : DayIs n y m d 0) (hz : EndIs n z 0) (hx : MoveIs z k true 0 3) (t1 : ¬ n + 146097 ≤ 3652059) (hd : DayIs b (y + 1) m d 0) (y1 : 1 ≤ y ∧ y ≤ 9999) (hm : m ≠ 2) :
    Calls Tryd.prog 8 #[.int .i64 n, .int .i16 k] w fun e w' => e = .returned (.bool true) ∧ Below w.heap.size w w' := by
  have H := (Held.start w).add (f := lensF) hL
  clear hL
  have D1 : Hid (decide (1 ≤ n ∧ n ≤ 3652059) = true) := Lib.hid (by rw [decide_eq_true_eq]; exact h1)
  have MA := Lib.hid ha
  have MB := Lib.hid hb
  have O1 := Lib.hid hc
  have EZ := Lib.hid hz
  have MX := Lib.hid hx
  clear ha hb hc hz hx
  have O2 := Lib.hid hd
  clear hd
  have t2 : (m == 2) = false := beq_eq_false_iff_ne.2 hm
  clear hm
  go_enter Tryd.func8, Tryd.ntmps8
  go_wp2_with fail
  (with_reducible refine (mshown_any _ (H.lens (List.Mem.head _))).mono ?_)
  rintro e w1 ⟨rfl, hb⟩
  replace H := H.below hb
  clear hb
  go_wp2_with fail
  (with_reducible refine (rday_is n true _ D1.out).mono ?_)
  rintro e w2 ⟨rfl, hb⟩
  replace H := H.below hb
  clear hb
  go_wp2_with fail
  (with_reducible refine (shift_any n 4800 0 3 _ (H.lens (List.Mem.head _)) MA.out).mono ?_)
  rintro e w3 ⟨rfl, hb⟩
  replace H := H.below hb
  clear hb
  go_wp2_with fail
  (with_reducible refine (shift_any n 12 b 0 _ (H.lens (List.Mem.head _)) MB.out).mono ?_)
  rintro e w4 ⟨rfl, hb⟩
  replace H := H.below hb
  clear hb
  go_wp2_with fail
  (with_reducible refine (rof_any n y m d 0 _ O1.out).mono ?_)
  rintro e w5 ⟨rfl, hb⟩
  replace H := H.below hb
  clear hb
  go_wp2_with fail
  replace H := (H.triple (w5.heap.size) (.int .i64 y) (.int .i64 m) (.int .i64 d) 35 rfl)
  (with_reducible refine (rof_any b (y + 1) m d 0 _ O2.out).mono ?_)
  rintro e w6 ⟨rfl, hb⟩
  replace H := H.below hb
  clear hb
  have cc0 := H.cell (w5.heap.size) 0 (.int .i64 y) (List.Mem.head _)
  have cc1 := H.cell (w5.heap.size) 1 (.int .i64 m) (List.Mem.tail _ (List.Mem.head _))
  have cc2 := H.cell (w5.heap.size) 2 (.int .i64 d) (List.Mem.tail _ (List.Mem.tail _ (List.Mem.head _)))
  have lc := H.lt (w5.heap.size) 0 (.int .i64 y) (List.Mem.head _)
  go_wp2_with fail
  clear cc0 cc1 cc2 lc
  replace H := (H.triple (w6.heap.size) (.int .i64 (y + 1)) (.int .i64 m) (.int .i64 d) 35 rfl)
  (with_reducible refine (rend_any n z 0 _ EZ.out).mono ?_)
  rintro e w7 ⟨rfl, hb⟩
  replace H := H.below hb
  clear hb
  have cc0 := H.cell (w5.heap.size) 0 (.int .i64 y) (List.Mem.tail _ (List.Mem.tail _ (List.Mem.tail _ (List.Mem.tail _ (List.Mem.tail _ (List.Mem.tail _ (List.Mem.head _)))))))
  have cc1 := H.cell (w5.heap.size) 1 (.int .i64 m) (List.Mem.tail _ (List.Mem.tail _ (List.Mem.tail _ (List.Mem.tail _ (List.Mem.tail _ (List.Mem.tail _ (List.Mem.tail _ (List.Mem.head _))))))))
  have cc2 := H.cell (w5.heap.size) 2 (.int .i64 d) (List.Mem.tail _ (List.Mem.tail _ (List.Mem.tail _ (List.Mem.tail _ (List.Mem.tail _ (List.Mem.tail _ (List.Mem.tail _ (List.Mem.tail _ (List.Mem.head _)))))))))
  have lc := H.lt (w5.heap.size) 0 (.int .i64 y) (List.Mem.tail _ (List.Mem.tail _ (List.Mem.tail _ (List.Mem.tail _ (List.Mem.tail _ (List.Mem.tail _ (List.Mem.head _)))))))
  have cd0 := H.cell (w6.heap.size) 0 (.int .i64 (y + 1)) (List.Mem.head _)
  have cd1 := H.cell (w6.heap.size) 1 (.int .i64 m) (List.Mem.tail _ (List.Mem.head _))
  have cd2 := H.cell (w6.heap.size) 2 (.int .i64 d) (List.Mem.tail _ (List.Mem.tail _ (List.Mem.head _)))
  have ld := H.lt (w6.heap.size) 0 (.int .i64 (y + 1)) (List.Mem.head _)
  go_wp2_with fail
  clear cc0 cc1 cc2 lc cd0 cd1 cd2 ld
  (with_reducible refine (move_any z k 0 3 true _ (H.lens (List.Mem.tail _ (List.Mem.tail _ (List.Mem.tail _ (List.Mem.tail _ (List.Mem.tail _ (List.Mem.tail _ (List.Mem.tail _ (List.Mem.tail _ (List.Mem.tail _ (List.Mem.tail _ (List.Mem.tail _ (List.Mem.tail _ (List.Mem.head _)))))))))))))) MX.out).mono ?_)
  rintro e w8 ⟨rfl, hb⟩
  replace H := H.below hb
  clear hb
  go_wp2_with fail
  go_ret
  exact ⟨rfl, H.old⟩

set_option maxHeartbeats 4000000 in
set_option maxRecDepth 100000 in
theorem meras_0nd3 (n k y d b z : Int) (w : World) (hL : Lens w) (h1 : 1 ≤ n ∧ n ≤ 3652059) (hk : -32768 ≤ k ∧ k < 32768) (ha : MoveIs n 4800 false (n + 146097) 0) (hb : MoveIs n 12 false b 0) (hc : DayIs n y 2 d 0) (hz : EndIs n z 0) (hx : MoveIs z k true 0 3) (t1 : n + 146097 ≤ 3652059) (hd : DayIs b (y + 1) 2 d 0) (y1 : 1 ≤ y ∧ y ≤ 9999) (hm : d ≠ 29) :
    Calls Tryd.prog 8 #[.int .i64 n, .int .i16 k] w fun e w' => e = .returned (.bool true) ∧ Below w.heap.size w w' := by
  have H := (Held.start w).add (f := lensF) hL
  clear hL
  have D1 : Hid (decide (1 ≤ n ∧ n ≤ 3652059) = true) := Lib.hid (by rw [decide_eq_true_eq]; exact h1)
  have MA := Lib.hid ha
  have MB := Lib.hid hb
  have O1 := Lib.hid hc
  have EZ := Lib.hid hz
  have MX := Lib.hid hx
  clear ha hb hc hz hx
  have O2 := Lib.hid hd
  clear hd
  have t2 : (d == 29) = false := beq_eq_false_iff_ne.2 hm
  clear hm
  go_enter Tryd.func8, Tryd.ntmps8
  go_wp2_with fail
  (with_reducible refine (mshown_any _ (H.lens (List.Mem.head _))).mono ?_)
  rintro e w1 ⟨rfl, hb⟩
  replace H := H.below hb
  clear hb
  go_wp2_with fail
  (with_reducible refine (rday_is n true _ D1.out).mono ?_)
  rintro e w2 ⟨rfl, hb⟩
  replace H := H.below hb
  clear hb
  go_wp2_with fail
  (with_reducible refine (shift_any n 4800 (n + 146097) 0 _ (H.lens (List.Mem.head _)) MA.out).mono ?_)
  rintro e w3 ⟨rfl, hb⟩
  replace H := H.below hb
  clear hb
  go_wp2_with fail
  (with_reducible refine (shift_any n 12 b 0 _ (H.lens (List.Mem.head _)) MB.out).mono ?_)
  rintro e w4 ⟨rfl, hb⟩
  replace H := H.below hb
  clear hb
  go_wp2_with fail
  (with_reducible refine (rof_any n y 2 d 0 _ O1.out).mono ?_)
  rintro e w5 ⟨rfl, hb⟩
  replace H := H.below hb
  clear hb
  go_wp2_with fail
  replace H := (H.triple (w5.heap.size) (.int .i64 y) (.int .i64 2) (.int .i64 d) 35 rfl)
  (with_reducible refine (rof_any b (y + 1) 2 d 0 _ O2.out).mono ?_)
  rintro e w6 ⟨rfl, hb⟩
  replace H := H.below hb
  clear hb
  have cc0 := H.cell (w5.heap.size) 0 (.int .i64 y) (List.Mem.head _)
  have cc1 := H.cell (w5.heap.size) 1 (.int .i64 2) (List.Mem.tail _ (List.Mem.head _))
  have cc2 := H.cell (w5.heap.size) 2 (.int .i64 d) (List.Mem.tail _ (List.Mem.tail _ (List.Mem.head _)))
  have lc := H.lt (w5.heap.size) 0 (.int .i64 y) (List.Mem.head _)
  go_wp2_with fail
  clear cc0 cc1 cc2 lc
  replace H := (H.triple (w6.heap.size) (.int .i64 (y + 1)) (.int .i64 2) (.int .i64 d) 35 rfl)
  (with_reducible refine (rend_any n z 0 _ EZ.out).mono ?_)
  rintro e w7 ⟨rfl, hb⟩
  replace H := H.below hb
  clear hb
  have cc0 := H.cell (w5.heap.size) 0 (.int .i64 y) (List.Mem.tail _ (List.Mem.tail _ (List.Mem.tail _ (List.Mem.tail _ (List.Mem.tail _ (List.Mem.tail _ (List.Mem.head _)))))))
  have cc1 := H.cell (w5.heap.size) 1 (.int .i64 2) (List.Mem.tail _ (List.Mem.tail _ (List.Mem.tail _ (List.Mem.tail _ (List.Mem.tail _ (List.Mem.tail _ (List.Mem.tail _ (List.Mem.head _))))))))
  have cc2 := H.cell (w5.heap.size) 2 (.int .i64 d) (List.Mem.tail _ (List.Mem.tail _ (List.Mem.tail _ (List.Mem.tail _ (List.Mem.tail _ (List.Mem.tail _ (List.Mem.tail _ (List.Mem.tail _ (List.Mem.head _)))))))))
  have lc := H.lt (w5.heap.size) 0 (.int .i64 y) (List.Mem.tail _ (List.Mem.tail _ (List.Mem.tail _ (List.Mem.tail _ (List.Mem.tail _ (List.Mem.tail _ (List.Mem.head _)))))))
  have cd0 := H.cell (w6.heap.size) 0 (.int .i64 (y + 1)) (List.Mem.head _)
  have cd1 := H.cell (w6.heap.size) 1 (.int .i64 2) (List.Mem.tail _ (List.Mem.head _))
  have cd2 := H.cell (w6.heap.size) 2 (.int .i64 d) (List.Mem.tail _ (List.Mem.tail _ (List.Mem.head _)))
  have ld := H.lt (w6.heap.size) 0 (.int .i64 (y + 1)) (List.Mem.head _)
  go_wp2_with fail
  clear cc0 cc1 cc2 lc cd0 cd1 cd2 ld
  (with_reducible refine (move_any z k 0 3 true _ (H.lens (List.Mem.tail _ (List.Mem.tail _ (List.Mem.tail _ (List.Mem.tail _ (List.Mem.tail _ (List.Mem.tail _ (List.Mem.tail _ (List.Mem.tail _ (List.Mem.tail _ (List.Mem.tail _ (List.Mem.tail _ (List.Mem.tail _ (List.Mem.head _)))))))))))))) MX.out).mono ?_)
  rintro e w8 ⟨rfl, hb⟩
  replace H := H.below hb
  clear hb
  go_wp2_with fail
  go_ret
  exact ⟨rfl, H.old⟩

set_option maxHeartbeats 4000000 in
set_option maxRecDepth 100000 in
theorem meras_3nd3 (n k y d b z : Int) (w : World) (hL : Lens w) (h1 : 1 ≤ n ∧ n ≤ 3652059) (hk : -32768 ≤ k ∧ k < 32768) (ha : MoveIs n 4800 false 0 3) (hb : MoveIs n 12 false b 0) (hc : DayIs n y 2 d 0) (hz : EndIs n z 0) (hx : MoveIs z k true 0 3) (t1 : ¬ n + 146097 ≤ 3652059) (hd : DayIs b (y + 1) 2 d 0) (y1 : 1 ≤ y ∧ y ≤ 9999) (hm : d ≠ 29) :
    Calls Tryd.prog 8 #[.int .i64 n, .int .i16 k] w fun e w' => e = .returned (.bool true) ∧ Below w.heap.size w w' := by
  have H := (Held.start w).add (f := lensF) hL
  clear hL
  have D1 : Hid (decide (1 ≤ n ∧ n ≤ 3652059) = true) := Lib.hid (by rw [decide_eq_true_eq]; exact h1)
  have MA := Lib.hid ha
  have MB := Lib.hid hb
  have O1 := Lib.hid hc
  have EZ := Lib.hid hz
  have MX := Lib.hid hx
  clear ha hb hc hz hx
  have O2 := Lib.hid hd
  clear hd
  have t2 : (d == 29) = false := beq_eq_false_iff_ne.2 hm
  clear hm
  go_enter Tryd.func8, Tryd.ntmps8
  go_wp2_with fail
  (with_reducible refine (mshown_any _ (H.lens (List.Mem.head _))).mono ?_)
  rintro e w1 ⟨rfl, hb⟩
  replace H := H.below hb
  clear hb
  go_wp2_with fail
  (with_reducible refine (rday_is n true _ D1.out).mono ?_)
  rintro e w2 ⟨rfl, hb⟩
  replace H := H.below hb
  clear hb
  go_wp2_with fail
  (with_reducible refine (shift_any n 4800 0 3 _ (H.lens (List.Mem.head _)) MA.out).mono ?_)
  rintro e w3 ⟨rfl, hb⟩
  replace H := H.below hb
  clear hb
  go_wp2_with fail
  (with_reducible refine (shift_any n 12 b 0 _ (H.lens (List.Mem.head _)) MB.out).mono ?_)
  rintro e w4 ⟨rfl, hb⟩
  replace H := H.below hb
  clear hb
  go_wp2_with fail
  (with_reducible refine (rof_any n y 2 d 0 _ O1.out).mono ?_)
  rintro e w5 ⟨rfl, hb⟩
  replace H := H.below hb
  clear hb
  go_wp2_with fail
  replace H := (H.triple (w5.heap.size) (.int .i64 y) (.int .i64 2) (.int .i64 d) 35 rfl)
  (with_reducible refine (rof_any b (y + 1) 2 d 0 _ O2.out).mono ?_)
  rintro e w6 ⟨rfl, hb⟩
  replace H := H.below hb
  clear hb
  have cc0 := H.cell (w5.heap.size) 0 (.int .i64 y) (List.Mem.head _)
  have cc1 := H.cell (w5.heap.size) 1 (.int .i64 2) (List.Mem.tail _ (List.Mem.head _))
  have cc2 := H.cell (w5.heap.size) 2 (.int .i64 d) (List.Mem.tail _ (List.Mem.tail _ (List.Mem.head _)))
  have lc := H.lt (w5.heap.size) 0 (.int .i64 y) (List.Mem.head _)
  go_wp2_with fail
  clear cc0 cc1 cc2 lc
  replace H := (H.triple (w6.heap.size) (.int .i64 (y + 1)) (.int .i64 2) (.int .i64 d) 35 rfl)
  (with_reducible refine (rend_any n z 0 _ EZ.out).mono ?_)
  rintro e w7 ⟨rfl, hb⟩
  replace H := H.below hb
  clear hb
  have cc0 := H.cell (w5.heap.size) 0 (.int .i64 y) (List.Mem.tail _ (List.Mem.tail _ (List.Mem.tail _ (List.Mem.tail _ (List.Mem.tail _ (List.Mem.tail _ (List.Mem.head _)))))))
  have cc1 := H.cell (w5.heap.size) 1 (.int .i64 2) (List.Mem.tail _ (List.Mem.tail _ (List.Mem.tail _ (List.Mem.tail _ (List.Mem.tail _ (List.Mem.tail _ (List.Mem.tail _ (List.Mem.head _))))))))
  have cc2 := H.cell (w5.heap.size) 2 (.int .i64 d) (List.Mem.tail _ (List.Mem.tail _ (List.Mem.tail _ (List.Mem.tail _ (List.Mem.tail _ (List.Mem.tail _ (List.Mem.tail _ (List.Mem.tail _ (List.Mem.head _)))))))))
  have lc := H.lt (w5.heap.size) 0 (.int .i64 y) (List.Mem.tail _ (List.Mem.tail _ (List.Mem.tail _ (List.Mem.tail _ (List.Mem.tail _ (List.Mem.tail _ (List.Mem.head _)))))))
  have cd0 := H.cell (w6.heap.size) 0 (.int .i64 (y + 1)) (List.Mem.head _)
  have cd1 := H.cell (w6.heap.size) 1 (.int .i64 2) (List.Mem.tail _ (List.Mem.head _))
  have cd2 := H.cell (w6.heap.size) 2 (.int .i64 d) (List.Mem.tail _ (List.Mem.tail _ (List.Mem.head _)))
  have ld := H.lt (w6.heap.size) 0 (.int .i64 (y + 1)) (List.Mem.head _)
  go_wp2_with fail
  clear cc0 cc1 cc2 lc cd0 cd1 cd2 ld
  (with_reducible refine (move_any z k 0 3 true _ (H.lens (List.Mem.tail _ (List.Mem.tail _ (List.Mem.tail _ (List.Mem.tail _ (List.Mem.tail _ (List.Mem.tail _ (List.Mem.tail _ (List.Mem.tail _ (List.Mem.tail _ (List.Mem.tail _ (List.Mem.tail _ (List.Mem.tail _ (List.Mem.head _)))))))))))))) MX.out).mono ?_)
  rintro e w8 ⟨rfl, hb⟩
  replace H := H.below hb
  clear hb
  go_wp2_with fail
  go_ret
  exact ⟨rfl, H.old⟩

set_option maxHeartbeats 4000000 in
set_option maxRecDepth 100000 in
theorem meras_3none3 (n k y m d z : Int) (w : World) (hL : Lens w) (h1 : 1 ≤ n ∧ n ≤ 3652059) (hk : -32768 ≤ k ∧ k < 32768) (ha : MoveIs n 4800 false 0 3) (hb : MoveIs n 12 false 0 3) (hc : DayIs n y m d 0) (hz : EndIs n z 0) (hx : MoveIs z k true 0 3) (t1 : ¬ n + 146097 ≤ 3652059) :
    Calls Tryd.prog 8 #[.int .i64 n, .int .i16 k] w fun e w' => e = .returned (.bool true) ∧ Below w.heap.size w w' := by
  have H := (Held.start w).add (f := lensF) hL
  clear hL
  have D1 : Hid (decide (1 ≤ n ∧ n ≤ 3652059) = true) := Lib.hid (by rw [decide_eq_true_eq]; exact h1)
  have MA := Lib.hid ha
  have MB := Lib.hid hb
  have O1 := Lib.hid hc
  have EZ := Lib.hid hz
  have MX := Lib.hid hx
  clear ha hb hc hz hx
  go_enter Tryd.func8, Tryd.ntmps8
  go_wp2_with fail
  (with_reducible refine (mshown_any _ (H.lens (List.Mem.head _))).mono ?_)
  rintro e w1 ⟨rfl, hb⟩
  replace H := H.below hb
  clear hb
  go_wp2_with fail
  (with_reducible refine (rday_is n true _ D1.out).mono ?_)
  rintro e w2 ⟨rfl, hb⟩
  replace H := H.below hb
  clear hb
  go_wp2_with fail
  (with_reducible refine (shift_any n 4800 0 3 _ (H.lens (List.Mem.head _)) MA.out).mono ?_)
  rintro e w3 ⟨rfl, hb⟩
  replace H := H.below hb
  clear hb
  go_wp2_with fail
  (with_reducible refine (shift_any n 12 0 3 _ (H.lens (List.Mem.head _)) MB.out).mono ?_)
  rintro e w4 ⟨rfl, hb⟩
  replace H := H.below hb
  clear hb
  go_wp2_with fail
  (with_reducible refine (rof_any n y m d 0 _ O1.out).mono ?_)
  rintro e w5 ⟨rfl, hb⟩
  replace H := H.below hb
  clear hb
  go_wp2_with fail
  replace H := (H.triple (w5.heap.size) (.int .i64 y) (.int .i64 m) (.int .i64 d) 35 rfl)
  (with_reducible refine (rend_any n z 0 _ EZ.out).mono ?_)
  rintro e w6 ⟨rfl, hb⟩
  replace H := H.below hb
  clear hb
  have cc0 := H.cell (w5.heap.size) 0 (.int .i64 y) (List.Mem.head _)
  have cc1 := H.cell (w5.heap.size) 1 (.int .i64 m) (List.Mem.tail _ (List.Mem.head _))
  have cc2 := H.cell (w5.heap.size) 2 (.int .i64 d) (List.Mem.tail _ (List.Mem.tail _ (List.Mem.head _)))
  have lc := H.lt (w5.heap.size) 0 (.int .i64 y) (List.Mem.head _)
  go_wp2_with fail
  clear cc0 cc1 cc2 lc
  (with_reducible refine (move_any z k 0 3 true _ (H.lens (List.Mem.tail _ (List.Mem.tail _ (List.Mem.tail _ (List.Mem.tail _ (List.Mem.tail _ (List.Mem.tail _ (List.Mem.head _)))))))) MX.out).mono ?_)
  rintro e w7 ⟨rfl, hb⟩
  replace H := H.below hb
  clear hb
  go_wp2_with fail
  go_ret
  exact ⟨rfl, H.old⟩

theorem meras_walk (n k : Int) (w : World) (hL : Lens w) (hn : -9223372036854775808 ≤ n ∧ n < 9223372036854775808) (hk : -32768 ≤ k ∧ k < 32768) : Calls Tryd.prog 8 #[.int .i64 n, .int .i16 k] w fun e w' => e = .returned (.bool true) ∧ Below w.heap.size w w' := by
  by_cases h : n < 1 ∨ 3652059 < n
  · exact meras_out n k w hL h
  · obtain ⟨y, m, d, hm, hb⟩ := day_of n (by omega) (by omega)
    have R : 1 ≤ n ∧ n ≤ 3652059 := by omega
    have hm' := hm
    obtain ⟨y1, y2, m1, m2, d1, d2⟩ := hm'
    have e0 : ∀ (Y M : Int), dm false y m d Y M = min d (ln Y M) := fun Y M => by unfold dm; simp
    have O1 : DayIs n y m d 0 := Or.inl ⟨hm, hb, rfl⟩
    -- the end of the month, moved
    have hz : EndIs n (nb y m (ln y m)) 0 := end_in y m d hm hb rfl
    have hme := end_may y m d hm
    have HX : (∃ x, MoveIs (nb y m (ln y m)) k true x 0 ∧ LastIs x true) ∨ MoveIs (nb y m (ln y m)) k true 0 3 := by
      by_cases f : 12 * y + m + k < 13 ∨ 120000 < 12 * y + m + k
      · exact Or.inr (move_far y m _ hme rfl f)
      · obtain ⟨Y, M, x1, x2, x3, x4, hM⟩ : ∃ Y M : Int, 1 ≤ Y ∧ Y ≤ 9999 ∧ 1 ≤ M ∧ M ≤ 12 ∧ 12 * Y + M = 12 * y + m + k :=
          ⟨(12 * y + m + k - 1) / 12, (12 * y + m + k - 1) % 12 + 1, by omega, by omega, by omega, by omega, by omega⟩
        have e1 : dm true y m (ln y m) Y M = ln Y M := by unfold dm; simp
        have hd := dm_may true y m (ln y m) Y M hme x1 x2 x3 x4
        rw [e1] at hd
        exact Or.inl ⟨nb Y M (ln Y M), move_in y m _ Y M _ hme rfl x1 x2 x3 x4 hM e1 rfl, last_in Y M _ hd rfl (by simp)⟩
    -- 400 years on
    have HA : (MoveIs n 4800 false (n + 146097) 0 ∧ n + 146097 ≤ 3652059 ∧ y ≤ 9599) ∨ (MoveIs n 4800 false 0 3 ∧ ¬ n + 146097 ≤ 3652059) := by
      by_cases f : y ≤ 9599
      · left
        have e1 : dm false y m d (y + 400) m = d := by rw [e0, ln_era]; omega
        have e2 : nb (y + 400) m d = n + 146097 := by rw [nb_era, hb]
        have a := dm_may false y m d (y + 400) m hm (by omega) (by omega) m1 m2
        rw [e1] at a
        have b := nb_bd _ _ _ a
        exact ⟨move_in y m d (y + 400) m _ hm hb (by omega) (by omega) m1 m2 (by omega) e1 e2, by omega, f⟩
      · right
        refine ⟨move_far y m d hm hb (by omega), ?_⟩
        have a := nb_later' y m d hm (by omega)
        omega
    -- a year on
    have HB : ∀ D, y ≤ 9998 → min d (ln (y + 1) m) = D → MoveIs n 12 false (nb (y + 1) m D) 0 ∧ DayIs (nb (y + 1) m D) (y + 1) m D 0 := by
      intro D hy hD
      have a := dm_may false y m d (y + 1) m hm (by omega) (by omega) m1 m2
      rw [e0, hD] at a
      exact ⟨move_in y m d (y + 1) m _ hm hb (by omega) (by omega) m1 m2 (by omega) ((e0 _ _).trans hD) rfl, Or.inl ⟨a, rfl, rfl⟩⟩
    by_cases hy : y ≤ 9998
    · by_cases hs : m = 2 ∧ d = 29
      · obtain ⟨rfl, rfl⟩ := hs
        obtain ⟨B1, B2⟩ := HB 28 hy (by rw [ln_feb y d2]; omega)
        rcases HA with ⟨A1, A2, -⟩ | ⟨A1, A2⟩
        · rcases HX with ⟨x, X1, X2⟩ | X1
          · exact meras_0short0 n k y _ _ x w hL R hk A1 B1 O1 hz X1 A2 B2 ⟨y1, y2⟩ X2
          · exact meras_0short3 n k y _ _ w hL R hk A1 B1 O1 hz X1 A2 B2 ⟨y1, y2⟩
        · rcases HX with ⟨x, X1, X2⟩ | X1
          · exact meras_3short0 n k y _ _ x w hL R hk A1 B1 O1 hz X1 A2 B2 ⟨y1, y2⟩ X2
          · exact meras_3short3 n k y _ _ w hL R hk A1 B1 O1 hz X1 A2 B2 ⟨y1, y2⟩
      · have hn := ln_next y m d m1 m2 d2 (by omega)
        obtain ⟨B1, B2⟩ := HB d hy (Int.min_eq_left hn)
        by_cases h2 : m = 2
        · subst h2
          have h29 : d ≠ 29 := fun e => hs ⟨rfl, e⟩
          rcases HA with ⟨A1, A2, -⟩ | ⟨A1, A2⟩
          · rcases HX with ⟨x, X1, X2⟩ | X1
            · exact meras_0nd0 n k y d _ _ x w hL R hk A1 B1 O1 hz X1 A2 B2 ⟨y1, y2⟩ h29 X2
            · exact meras_0nd3 n k y d _ _ w hL R hk A1 B1 O1 hz X1 A2 B2 ⟨y1, y2⟩ h29
          · rcases HX with ⟨x, X1, X2⟩ | X1
            · exact meras_3nd0 n k y d _ _ x w hL R hk A1 B1 O1 hz X1 A2 B2 ⟨y1, y2⟩ h29 X2
            · exact meras_3nd3 n k y d _ _ w hL R hk A1 B1 O1 hz X1 A2 B2 ⟨y1, y2⟩ h29
        · rcases HA with ⟨A1, A2, -⟩ | ⟨A1, A2⟩
          · rcases HX with ⟨x, X1, X2⟩ | X1
            · exact meras_0nm0 n k y m d _ _ x w hL R hk A1 B1 O1 hz X1 A2 B2 ⟨y1, y2⟩ h2 X2
            · exact meras_0nm3 n k y m d _ _ w hL R hk A1 B1 O1 hz X1 A2 B2 ⟨y1, y2⟩ h2
          · rcases HX with ⟨x, X1, X2⟩ | X1
            · exact meras_3nm0 n k y m d _ _ x w hL R hk A1 B1 O1 hz X1 A2 B2 ⟨y1, y2⟩ h2 X2
            · exact meras_3nm3 n k y m d _ _ w hL R hk A1 B1 O1 hz X1 A2 B2 ⟨y1, y2⟩ h2
    · have B1 : MoveIs n 12 false 0 3 := move_far y m d hm hb (by omega)
      rcases HA with ⟨-, -, A3⟩ | ⟨A1, A2⟩
      · omega
      · rcases HX with ⟨x, X1, X2⟩ | X1
        · exact meras_3none0 n k y m d _ x w hL R hk A1 B1 O1 hz X1 A2 X2
        · exact meras_3none3 n k y m d _ w hL R hk A1 B1 O1 hz X1 A2
end Go.Proofs.YtmbhcomkdcodfaaDoor
