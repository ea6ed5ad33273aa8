/- MonthsBack: the walk. -/
import Derived.Test.YtmbhcomkdcodfaaDoorMoShown
namespace Go.Proofs.YtmbhcomkdcodfaaDoor
open Go.RowKit
set_option linter.unusedVariables false
set_option linter.unusedSimpArgs false

set_option maxHeartbeats 4000000 in
set_option maxRecDepth 100000 in
theorem mback_out (n j k : Int) (w : World) (hL : Lens w) (h : n < 1 ∨ 3652059 < n) :
    Calls Tryd.prog 6 #[.int .i64 n, .int .i16 j, .int .i16 k] w fun e w' => e = .returned (.bool true) ∧ Below w.heap.size w w' := by
  have H := (Held.start w).add (f := lensF) hL
  clear hL
  have D1 : Hid (decide (1 ≤ n ∧ n ≤ 3652059) = false) := Lib.hid (by rw [decide_eq_false_iff_not]; omega)
  clear h
  go_enter Tryd.func6, Tryd.ntmps6
  go_wp2_with fail
  (with_reducible refine (mshown_any _ (H.lens (List.Mem.head _))).mono ?_)
  rintro e w1 ⟨rfl, hb⟩
  replace H := H.below hb
  clear hb
  go_wp2_with fail
  (with_reducible refine (rday_is n false _ D1.out).mono ?_)
  rintro e w2 ⟨rfl, hb⟩
  replace H := H.below hb
  clear hb
  go_wp2_with fail
  go_ret
  exact ⟨rfl, H.old⟩

set_option maxHeartbeats 4000000 in
set_option maxRecDepth 100000 in
theorem mback_far (n j k P Q : Int) (w : World) (hL : Lens w) (nr : 1 ≤ n ∧ n ≤ 3652059) (hP : j.tmod 3000 = P) (hQ : k.tmod 3000 = Q) (hj : -32768 ≤ j ∧ j < 32768) (hk : -32768 ≤ k ∧ k < 32768) (hm : MoveIs n P false 0 3) :
    Calls Tryd.prog 6 #[.int .i64 n, .int .i16 j, .int .i16 k] w fun e w' => e = .returned (.bool true) ∧ Below w.heap.size w w' := by
  have H := (Held.start w).add (f := lensF) hL
  clear hL
  have D1 : Hid (decide (1 ≤ n ∧ n ≤ 3652059) = true) := Lib.hid (by rw [decide_eq_true_eq]; exact nr)
  clear nr
  have p1 := tmod_bd j 3000 (by decide)
  have q1 := tmod_bd k 3000 (by decide)
  rw [hP] at p1
  rw [hQ] at q1
  have HP := Lib.hid hP
  have HQ := Lib.hid hQ
  clear hP hQ
  have M1 := Lib.hid hm
  clear hm
  go_enter Tryd.func6, Tryd.ntmps6
  go_wp2_with fail
  (with_reducible refine (mshown_any _ (H.lens (List.Mem.head _))).mono ?_)
  rintro e w1 ⟨rfl, hb⟩
  replace H := H.below hb
  clear hb
  go_wp2_with fail
  (with_reducible refine (rday_is n true _ D1.out).mono ?_)
  rintro e w2 ⟨rfl, hb⟩
  replace H := H.below hb
  clear hb
  go_wp2_with fail
  rw [HP.out]
  (with_reducible refine (shift_any n P 0 3 _ (H.lens (List.Mem.head _)) M1.out).mono ?_)
  rintro e w3 ⟨rfl, hb⟩
  replace H := H.below hb
  clear hb
  go_wp2_with fail
  go_ret
  exact ⟨rfl, H.old⟩

set_option maxHeartbeats 4000000 in
set_option maxRecDepth 100000 in
theorem mback_same (n j k P Q x y m d Y M u g : Int) (w : World) (hL : Lens w) (nr : 1 ≤ n ∧ n ≤ 3652059) (hP : j.tmod 3000 = P) (hQ : k.tmod 3000 = Q) (hj : -32768 ≤ j ∧ j < 32768) (hk : -32768 ≤ k ∧ k < 32768) (hm : MoveIs n P false x 0) (hb : MoveIs x (-P) false n 0) (ho : DayIs n y m d 0) (hx : DayIs x Y M d 0) (hz : MoveIs x Q false u g) (hu : MoveIs n (P + Q) false u g) :
    Calls Tryd.prog 6 #[.int .i64 n, .int .i16 j, .int .i16 k] w fun e w' => e = .returned (.bool true) ∧ Below w.heap.size w w' := by
  have H := (Held.start w).add (f := lensF) hL
  clear hL
  have D1 : Hid (decide (1 ≤ n ∧ n ≤ 3652059) = true) := Lib.hid (by rw [decide_eq_true_eq]; exact nr)
  clear nr
  have p1 := tmod_bd j 3000 (by decide)
  have q1 := tmod_bd k 3000 (by decide)
  rw [hP] at p1
  rw [hQ] at q1
  have HP := Lib.hid hP
  have HQ := Lib.hid hQ
  clear hP hQ
  have M1 := Lib.hid hm
  have M2 := Lib.hid hb
  have O1 := Lib.hid ho
  have O2 := Lib.hid hx
  have M3 := Lib.hid hz
  have M4 := Lib.hid hu
  clear hm hb ho hx hz hu
  go_enter Tryd.func6, Tryd.ntmps6
  go_wp2_with fail
  (with_reducible refine (mshown_any _ (H.lens (List.Mem.head _))).mono ?_)
  rintro e w1 ⟨rfl, hb⟩
  replace H := H.below hb
  clear hb
  go_wp2_with fail
  (with_reducible refine (rday_is n true _ D1.out).mono ?_)
  rintro e w2 ⟨rfl, hb⟩
  replace H := H.below hb
  clear hb
  go_wp2_with fail
  rw [HP.out, HQ.out]
  (with_reducible refine (shift_any n P x 0 _ (H.lens (List.Mem.head _)) M1.out).mono ?_)
  rintro e w3 ⟨rfl, hb⟩
  replace H := H.below hb
  clear hb
  go_wp2_with fail
  (with_reducible refine (shift_any x (-P) n 0 _ (H.lens (List.Mem.head _)) M2.out).mono ?_)
  rintro e w4 ⟨rfl, hb⟩
  replace H := H.below hb
  clear hb
  go_wp2_with fail
  (with_reducible refine (rof_any n y m d 0 _ O1.out).mono ?_)
  rintro e w5 ⟨rfl, hb⟩
  replace H := H.below hb
  clear hb
  go_wp2_with fail
  replace H := (H.triple (w5.heap.size) (.int .i64 y) (.int .i64 m) (.int .i64 d) 35 rfl)
  (with_reducible refine (rof_any x Y M d 0 _ O2.out).mono ?_)
  rintro e w6 ⟨rfl, hb⟩
  replace H := H.below hb
  clear hb
  have ca0 := H.cell (w5.heap.size) 0 (.int .i64 y) (List.Mem.head _)
  have ca1 := H.cell (w5.heap.size) 1 (.int .i64 m) (List.Mem.tail _ (List.Mem.head _))
  have ca2 := H.cell (w5.heap.size) 2 (.int .i64 d) (List.Mem.tail _ (List.Mem.tail _ (List.Mem.head _)))
  have la := H.lt (w5.heap.size) 0 (.int .i64 y) (List.Mem.head _)
  go_wp2_with fail
  clear ca0 ca1 ca2 la
  replace H := (H.triple (w6.heap.size) (.int .i64 Y) (.int .i64 M) (.int .i64 d) 35 rfl)
  (with_reducible refine (rof_any n y m d 0 _ O1.out).mono ?_)
  rintro e w7 ⟨rfl, hb⟩
  replace H := H.below hb
  clear hb
  have ca0 := H.cell (w5.heap.size) 0 (.int .i64 y) (List.Mem.tail _ (List.Mem.tail _ (List.Mem.tail _ (List.Mem.tail _ (List.Mem.tail _ (List.Mem.tail _ (List.Mem.head _)))))))
  have ca1 := H.cell (w5.heap.size) 1 (.int .i64 m) (List.Mem.tail _ (List.Mem.tail _ (List.Mem.tail _ (List.Mem.tail _ (List.Mem.tail _ (List.Mem.tail _ (List.Mem.tail _ (List.Mem.head _))))))))
  have ca2 := H.cell (w5.heap.size) 2 (.int .i64 d) (List.Mem.tail _ (List.Mem.tail _ (List.Mem.tail _ (List.Mem.tail _ (List.Mem.tail _ (List.Mem.tail _ (List.Mem.tail _ (List.Mem.tail _ (List.Mem.head _)))))))))
  have la := H.lt (w5.heap.size) 0 (.int .i64 y) (List.Mem.tail _ (List.Mem.tail _ (List.Mem.tail _ (List.Mem.tail _ (List.Mem.tail _ (List.Mem.tail _ (List.Mem.head _)))))))
  have cb0 := H.cell (w6.heap.size) 0 (.int .i64 Y) (List.Mem.head _)
  have cb1 := H.cell (w6.heap.size) 1 (.int .i64 M) (List.Mem.tail _ (List.Mem.head _))
  have cb2 := H.cell (w6.heap.size) 2 (.int .i64 d) (List.Mem.tail _ (List.Mem.tail _ (List.Mem.head _)))
  have lb := H.lt (w6.heap.size) 0 (.int .i64 Y) (List.Mem.head _)
  go_wp2_with fail
  clear ca0 ca1 ca2 la cb0 cb1 cb2 lb
  replace H := (H.triple (w7.heap.size) (.int .i64 y) (.int .i64 m) (.int .i64 d) 35 rfl)
  (with_reducible refine (shift_any x Q u g _ (H.lens (List.Mem.tail _ (List.Mem.tail _ (List.Mem.tail _ (List.Mem.tail _ (List.Mem.tail _ (List.Mem.tail _ (List.Mem.tail _ (List.Mem.tail _ (List.Mem.tail _ (List.Mem.tail _ (List.Mem.tail _ (List.Mem.tail _ (List.Mem.tail _ (List.Mem.tail _ (List.Mem.tail _ (List.Mem.tail _ (List.Mem.tail _ (List.Mem.tail _ (List.Mem.head _)))))))))))))))))))) M3.out).mono ?_)
  rintro e w8 ⟨rfl, hb⟩
  replace H := H.below hb
  clear hb
  have ca0 := H.cell (w5.heap.size) 0 (.int .i64 y) (List.Mem.tail _ (List.Mem.tail _ (List.Mem.tail _ (List.Mem.tail _ (List.Mem.tail _ (List.Mem.tail _ (List.Mem.tail _ (List.Mem.tail _ (List.Mem.tail _ (List.Mem.tail _ (List.Mem.tail _ (List.Mem.tail _ (List.Mem.head _)))))))))))))
  have ca1 := H.cell (w5.heap.size) 1 (.int .i64 m) (List.Mem.tail _ (List.Mem.tail _ (List.Mem.tail _ (List.Mem.tail _ (List.Mem.tail _ (List.Mem.tail _ (List.Mem.tail _ (List.Mem.tail _ (List.Mem.tail _ (List.Mem.tail _ (List.Mem.tail _ (List.Mem.tail _ (List.Mem.tail _ (List.Mem.head _))))))))))))))
  have ca2 := H.cell (w5.heap.size) 2 (.int .i64 d) (List.Mem.tail _ (List.Mem.tail _ (List.Mem.tail _ (List.Mem.tail _ (List.Mem.tail _ (List.Mem.tail _ (List.Mem.tail _ (List.Mem.tail _ (List.Mem.tail _ (List.Mem.tail _ (List.Mem.tail _ (List.Mem.tail _ (List.Mem.tail _ (List.Mem.tail _ (List.Mem.head _)))))))))))))))
  have la := H.lt (w5.heap.size) 0 (.int .i64 y) (List.Mem.tail _ (List.Mem.tail _ (List.Mem.tail _ (List.Mem.tail _ (List.Mem.tail _ (List.Mem.tail _ (List.Mem.tail _ (List.Mem.tail _ (List.Mem.tail _ (List.Mem.tail _ (List.Mem.tail _ (List.Mem.tail _ (List.Mem.head _)))))))))))))
  have cb0 := H.cell (w6.heap.size) 0 (.int .i64 Y) (List.Mem.tail _ (List.Mem.tail _ (List.Mem.tail _ (List.Mem.tail _ (List.Mem.tail _ (List.Mem.tail _ (List.Mem.head _)))))))
  have cb1 := H.cell (w6.heap.size) 1 (.int .i64 M) (List.Mem.tail _ (List.Mem.tail _ (List.Mem.tail _ (List.Mem.tail _ (List.Mem.tail _ (List.Mem.tail _ (List.Mem.tail _ (List.Mem.head _))))))))
  have cb2 := H.cell (w6.heap.size) 2 (.int .i64 d) (List.Mem.tail _ (List.Mem.tail _ (List.Mem.tail _ (List.Mem.tail _ (List.Mem.tail _ (List.Mem.tail _ (List.Mem.tail _ (List.Mem.tail _ (List.Mem.head _)))))))))
  have lb := H.lt (w6.heap.size) 0 (.int .i64 Y) (List.Mem.tail _ (List.Mem.tail _ (List.Mem.tail _ (List.Mem.tail _ (List.Mem.tail _ (List.Mem.tail _ (List.Mem.head _)))))))
  have cc0 := H.cell (w7.heap.size) 0 (.int .i64 y) (List.Mem.head _)
  have cc1 := H.cell (w7.heap.size) 1 (.int .i64 m) (List.Mem.tail _ (List.Mem.head _))
  have cc2 := H.cell (w7.heap.size) 2 (.int .i64 d) (List.Mem.tail _ (List.Mem.tail _ (List.Mem.head _)))
  have lc := H.lt (w7.heap.size) 0 (.int .i64 y) (List.Mem.head _)
  go_wp2_with fail
  clear ca0 ca1 ca2 la cb0 cb1 cb2 lb cc0 cc1 cc2 lc
  (with_reducible refine (shift_any n (P + Q) u g _ (H.lens (List.Mem.tail _ (List.Mem.tail _ (List.Mem.tail _ (List.Mem.tail _ (List.Mem.tail _ (List.Mem.tail _ (List.Mem.tail _ (List.Mem.tail _ (List.Mem.tail _ (List.Mem.tail _ (List.Mem.tail _ (List.Mem.tail _ (List.Mem.tail _ (List.Mem.tail _ (List.Mem.tail _ (List.Mem.tail _ (List.Mem.tail _ (List.Mem.tail _ (List.Mem.head _)))))))))))))))))))) M4.out).mono ?_)
  rintro e w9 ⟨rfl, hb⟩
  replace H := H.below hb
  clear hb
  have ca0 := H.cell (w5.heap.size) 0 (.int .i64 y) (List.Mem.tail _ (List.Mem.tail _ (List.Mem.tail _ (List.Mem.tail _ (List.Mem.tail _ (List.Mem.tail _ (List.Mem.tail _ (List.Mem.tail _ (List.Mem.tail _ (List.Mem.tail _ (List.Mem.tail _ (List.Mem.tail _ (List.Mem.head _)))))))))))))
  have ca1 := H.cell (w5.heap.size) 1 (.int .i64 m) (List.Mem.tail _ (List.Mem.tail _ (List.Mem.tail _ (List.Mem.tail _ (List.Mem.tail _ (List.Mem.tail _ (List.Mem.tail _ (List.Mem.tail _ (List.Mem.tail _ (List.Mem.tail _ (List.Mem.tail _ (List.Mem.tail _ (List.Mem.tail _ (List.Mem.head _))))))))))))))
  have ca2 := H.cell (w5.heap.size) 2 (.int .i64 d) (List.Mem.tail _ (List.Mem.tail _ (List.Mem.tail _ (List.Mem.tail _ (List.Mem.tail _ (List.Mem.tail _ (List.Mem.tail _ (List.Mem.tail _ (List.Mem.tail _ (List.Mem.tail _ (List.Mem.tail _ (List.Mem.tail _ (List.Mem.tail _ (List.Mem.tail _ (List.Mem.head _)))))))))))))))
  have la := H.lt (w5.heap.size) 0 (.int .i64 y) (List.Mem.tail _ (List.Mem.tail _ (List.Mem.tail _ (List.Mem.tail _ (List.Mem.tail _ (List.Mem.tail _ (List.Mem.tail _ (List.Mem.tail _ (List.Mem.tail _ (List.Mem.tail _ (List.Mem.tail _ (List.Mem.tail _ (List.Mem.head _)))))))))))))
  have cb0 := H.cell (w6.heap.size) 0 (.int .i64 Y) (List.Mem.tail _ (List.Mem.tail _ (List.Mem.tail _ (List.Mem.tail _ (List.Mem.tail _ (List.Mem.tail _ (List.Mem.head _)))))))
  have cb1 := H.cell (w6.heap.size) 1 (.int .i64 M) (List.Mem.tail _ (List.Mem.tail _ (List.Mem.tail _ (List.Mem.tail _ (List.Mem.tail _ (List.Mem.tail _ (List.Mem.tail _ (List.Mem.head _))))))))
  have cb2 := H.cell (w6.heap.size) 2 (.int .i64 d) (List.Mem.tail _ (List.Mem.tail _ (List.Mem.tail _ (List.Mem.tail _ (List.Mem.tail _ (List.Mem.tail _ (List.Mem.tail _ (List.Mem.tail _ (List.Mem.head _)))))))))
  have lb := H.lt (w6.heap.size) 0 (.int .i64 Y) (List.Mem.tail _ (List.Mem.tail _ (List.Mem.tail _ (List.Mem.tail _ (List.Mem.tail _ (List.Mem.tail _ (List.Mem.head _)))))))
  have cc0 := H.cell (w7.heap.size) 0 (.int .i64 y) (List.Mem.head _)
  have cc1 := H.cell (w7.heap.size) 1 (.int .i64 m) (List.Mem.tail _ (List.Mem.head _))
  have cc2 := H.cell (w7.heap.size) 2 (.int .i64 d) (List.Mem.tail _ (List.Mem.tail _ (List.Mem.head _)))
  have lc := H.lt (w7.heap.size) 0 (.int .i64 y) (List.Mem.head _)
  go_wp2_with fail
  clear ca0 ca1 ca2 la cb0 cb1 cb2 lb cc0 cc1 cc2 lc
  go_ret
  exact ⟨rfl, H.old⟩

set_option maxHeartbeats 4000000 in
set_option maxRecDepth 100000 in
theorem mback_cut (n j k P Q x y m d Y M D v d2 z u g : Int) (w : World) (hL : Lens w) (nr : 1 ≤ n ∧ n ≤ 3652059) (hP : j.tmod 3000 = P) (hQ : k.tmod 3000 = Q) (hj : -32768 ≤ j ∧ j < 32768) (hk : -32768 ≤ k ∧ k < 32768) (hm : MoveIs n P false x 0) (hb : MoveIs x (-P) false v 0) (ho : DayIs n y m d 0) (hx : DayIs x Y M D 0) (hv : DayIs v y m d2 0) (hvn : v ≠ n) (hDd : D ≠ d) (hz : MoveIs x Q false z g) (hu : MoveIs n (P + Q) false u g) :
    Calls Tryd.prog 6 #[.int .i64 n, .int .i16 j, .int .i16 k] w fun e w' => e = .returned (.bool true) ∧ Below w.heap.size w w' := by
  have H := (Held.start w).add (f := lensF) hL
  clear hL
  have D1 : Hid (decide (1 ≤ n ∧ n ≤ 3652059) = true) := Lib.hid (by rw [decide_eq_true_eq]; exact nr)
  clear nr
  have p1 := tmod_bd j 3000 (by decide)
  have q1 := tmod_bd k 3000 (by decide)
  rw [hP] at p1
  rw [hQ] at q1
  have HP := Lib.hid hP
  have HQ := Lib.hid hQ
  clear hP hQ
  have M1 := Lib.hid hm
  have M2 := Lib.hid hb
  have O1 := Lib.hid ho
  have O2 := Lib.hid hx
  have M3 := Lib.hid hz
  have M4 := Lib.hid hu
  have O3 := Lib.hid hv
  have t1 : (v == n) = false := beq_eq_false_iff_ne.2 hvn
  have t2 : (D == d) = false := beq_eq_false_iff_ne.2 hDd
  have t3 : (D != d) = true := by simpa using hDd
  clear hv hvn hDd
  clear hm hb ho hx hz hu
  go_enter Tryd.func6, Tryd.ntmps6
  go_wp2_with fail
  (with_reducible refine (mshown_any _ (H.lens (List.Mem.head _))).mono ?_)
  rintro e w1 ⟨rfl, hb⟩
  replace H := H.below hb
  clear hb
  go_wp2_with fail
  (with_reducible refine (rday_is n true _ D1.out).mono ?_)
  rintro e w2 ⟨rfl, hb⟩
  replace H := H.below hb
  clear hb
  go_wp2_with fail
  rw [HP.out, HQ.out]
  (with_reducible refine (shift_any n P x 0 _ (H.lens (List.Mem.head _)) M1.out).mono ?_)
  rintro e w3 ⟨rfl, hb⟩
  replace H := H.below hb
  clear hb
  go_wp2_with fail
  (with_reducible refine (shift_any x (-P) v 0 _ (H.lens (List.Mem.head _)) M2.out).mono ?_)
  rintro e w4 ⟨rfl, hb⟩
  replace H := H.below hb
  clear hb
  go_wp2_with fail
  (with_reducible refine (rof_any n y m d 0 _ O1.out).mono ?_)
  rintro e w5 ⟨rfl, hb⟩
  replace H := H.below hb
  clear hb
  go_wp2_with fail
  replace H := (H.triple (w5.heap.size) (.int .i64 y) (.int .i64 m) (.int .i64 d) 35 rfl)
  (with_reducible refine (rof_any x Y M D 0 _ O2.out).mono ?_)
  rintro e w6 ⟨rfl, hb⟩
  replace H := H.below hb
  clear hb
  have ca0 := H.cell (w5.heap.size) 0 (.int .i64 y) (List.Mem.head _)
  have ca1 := H.cell (w5.heap.size) 1 (.int .i64 m) (List.Mem.tail _ (List.Mem.head _))
  have ca2 := H.cell (w5.heap.size) 2 (.int .i64 d) (List.Mem.tail _ (List.Mem.tail _ (List.Mem.head _)))
  have la := H.lt (w5.heap.size) 0 (.int .i64 y) (List.Mem.head _)
  go_wp2_with fail
  clear ca0 ca1 ca2 la
  replace H := (H.triple (w6.heap.size) (.int .i64 Y) (.int .i64 M) (.int .i64 D) 35 rfl)
  (with_reducible refine (rof_any v y m d2 0 _ O3.out).mono ?_)
  rintro e w7 ⟨rfl, hb⟩
  replace H := H.below hb
  clear hb
  have ca0 := H.cell (w5.heap.size) 0 (.int .i64 y) (List.Mem.tail _ (List.Mem.tail _ (List.Mem.tail _ (List.Mem.tail _ (List.Mem.tail _ (List.Mem.tail _ (List.Mem.head _)))))))
  have ca1 := H.cell (w5.heap.size) 1 (.int .i64 m) (List.Mem.tail _ (List.Mem.tail _ (List.Mem.tail _ (List.Mem.tail _ (List.Mem.tail _ (List.Mem.tail _ (List.Mem.tail _ (List.Mem.head _))))))))
  have ca2 := H.cell (w5.heap.size) 2 (.int .i64 d) (List.Mem.tail _ (List.Mem.tail _ (List.Mem.tail _ (List.Mem.tail _ (List.Mem.tail _ (List.Mem.tail _ (List.Mem.tail _ (List.Mem.tail _ (List.Mem.head _)))))))))
  have la := H.lt (w5.heap.size) 0 (.int .i64 y) (List.Mem.tail _ (List.Mem.tail _ (List.Mem.tail _ (List.Mem.tail _ (List.Mem.tail _ (List.Mem.tail _ (List.Mem.head _)))))))
  have cb0 := H.cell (w6.heap.size) 0 (.int .i64 Y) (List.Mem.head _)
  have cb1 := H.cell (w6.heap.size) 1 (.int .i64 M) (List.Mem.tail _ (List.Mem.head _))
  have cb2 := H.cell (w6.heap.size) 2 (.int .i64 D) (List.Mem.tail _ (List.Mem.tail _ (List.Mem.head _)))
  have lb := H.lt (w6.heap.size) 0 (.int .i64 Y) (List.Mem.head _)
  go_wp2_with fail
  clear ca0 ca1 ca2 la cb0 cb1 cb2 lb
  replace H := (H.triple (w7.heap.size) (.int .i64 y) (.int .i64 m) (.int .i64 d2) 35 rfl)
  (with_reducible refine (shift_any x Q z g _ (H.lens (List.Mem.tail _ (List.Mem.tail _ (List.Mem.tail _ (List.Mem.tail _ (List.Mem.tail _ (List.Mem.tail _ (List.Mem.tail _ (List.Mem.tail _ (List.Mem.tail _ (List.Mem.tail _ (List.Mem.tail _ (List.Mem.tail _ (List.Mem.tail _ (List.Mem.tail _ (List.Mem.tail _ (List.Mem.tail _ (List.Mem.tail _ (List.Mem.tail _ (List.Mem.head _)))))))))))))))))))) M3.out).mono ?_)
  rintro e w8 ⟨rfl, hb⟩
  replace H := H.below hb
  clear hb
  have ca0 := H.cell (w5.heap.size) 0 (.int .i64 y) (List.Mem.tail _ (List.Mem.tail _ (List.Mem.tail _ (List.Mem.tail _ (List.Mem.tail _ (List.Mem.tail _ (List.Mem.tail _ (List.Mem.tail _ (List.Mem.tail _ (List.Mem.tail _ (List.Mem.tail _ (List.Mem.tail _ (List.Mem.head _)))))))))))))
  have ca1 := H.cell (w5.heap.size) 1 (.int .i64 m) (List.Mem.tail _ (List.Mem.tail _ (List.Mem.tail _ (List.Mem.tail _ (List.Mem.tail _ (List.Mem.tail _ (List.Mem.tail _ (List.Mem.tail _ (List.Mem.tail _ (List.Mem.tail _ (List.Mem.tail _ (List.Mem.tail _ (List.Mem.tail _ (List.Mem.head _))))))))))))))
  have ca2 := H.cell (w5.heap.size) 2 (.int .i64 d) (List.Mem.tail _ (List.Mem.tail _ (List.Mem.tail _ (List.Mem.tail _ (List.Mem.tail _ (List.Mem.tail _ (List.Mem.tail _ (List.Mem.tail _ (List.Mem.tail _ (List.Mem.tail _ (List.Mem.tail _ (List.Mem.tail _ (List.Mem.tail _ (List.Mem.tail _ (List.Mem.head _)))))))))))))))
  have la := H.lt (w5.heap.size) 0 (.int .i64 y) (List.Mem.tail _ (List.Mem.tail _ (List.Mem.tail _ (List.Mem.tail _ (List.Mem.tail _ (List.Mem.tail _ (List.Mem.tail _ (List.Mem.tail _ (List.Mem.tail _ (List.Mem.tail _ (List.Mem.tail _ (List.Mem.tail _ (List.Mem.head _)))))))))))))
  have cb0 := H.cell (w6.heap.size) 0 (.int .i64 Y) (List.Mem.tail _ (List.Mem.tail _ (List.Mem.tail _ (List.Mem.tail _ (List.Mem.tail _ (List.Mem.tail _ (List.Mem.head _)))))))
  have cb1 := H.cell (w6.heap.size) 1 (.int .i64 M) (List.Mem.tail _ (List.Mem.tail _ (List.Mem.tail _ (List.Mem.tail _ (List.Mem.tail _ (List.Mem.tail _ (List.Mem.tail _ (List.Mem.head _))))))))
  have cb2 := H.cell (w6.heap.size) 2 (.int .i64 D) (List.Mem.tail _ (List.Mem.tail _ (List.Mem.tail _ (List.Mem.tail _ (List.Mem.tail _ (List.Mem.tail _ (List.Mem.tail _ (List.Mem.tail _ (List.Mem.head _)))))))))
  have lb := H.lt (w6.heap.size) 0 (.int .i64 Y) (List.Mem.tail _ (List.Mem.tail _ (List.Mem.tail _ (List.Mem.tail _ (List.Mem.tail _ (List.Mem.tail _ (List.Mem.head _)))))))
  have cc0 := H.cell (w7.heap.size) 0 (.int .i64 y) (List.Mem.head _)
  have cc1 := H.cell (w7.heap.size) 1 (.int .i64 m) (List.Mem.tail _ (List.Mem.head _))
  have cc2 := H.cell (w7.heap.size) 2 (.int .i64 d2) (List.Mem.tail _ (List.Mem.tail _ (List.Mem.head _)))
  have lc := H.lt (w7.heap.size) 0 (.int .i64 y) (List.Mem.head _)
  go_wp2_with fail
  clear ca0 ca1 ca2 la cb0 cb1 cb2 lb cc0 cc1 cc2 lc
  (with_reducible refine (shift_any n (P + Q) u g _ (H.lens (List.Mem.tail _ (List.Mem.tail _ (List.Mem.tail _ (List.Mem.tail _ (List.Mem.tail _ (List.Mem.tail _ (List.Mem.tail _ (List.Mem.tail _ (List.Mem.tail _ (List.Mem.tail _ (List.Mem.tail _ (List.Mem.tail _ (List.Mem.tail _ (List.Mem.tail _ (List.Mem.tail _ (List.Mem.tail _ (List.Mem.tail _ (List.Mem.tail _ (List.Mem.head _)))))))))))))))))))) M4.out).mono ?_)
  rintro e w9 ⟨rfl, hb⟩
  replace H := H.below hb
  clear hb
  have ca0 := H.cell (w5.heap.size) 0 (.int .i64 y) (List.Mem.tail _ (List.Mem.tail _ (List.Mem.tail _ (List.Mem.tail _ (List.Mem.tail _ (List.Mem.tail _ (List.Mem.tail _ (List.Mem.tail _ (List.Mem.tail _ (List.Mem.tail _ (List.Mem.tail _ (List.Mem.tail _ (List.Mem.head _)))))))))))))
  have ca1 := H.cell (w5.heap.size) 1 (.int .i64 m) (List.Mem.tail _ (List.Mem.tail _ (List.Mem.tail _ (List.Mem.tail _ (List.Mem.tail _ (List.Mem.tail _ (List.Mem.tail _ (List.Mem.tail _ (List.Mem.tail _ (List.Mem.tail _ (List.Mem.tail _ (List.Mem.tail _ (List.Mem.tail _ (List.Mem.head _))))))))))))))
  have ca2 := H.cell (w5.heap.size) 2 (.int .i64 d) (List.Mem.tail _ (List.Mem.tail _ (List.Mem.tail _ (List.Mem.tail _ (List.Mem.tail _ (List.Mem.tail _ (List.Mem.tail _ (List.Mem.tail _ (List.Mem.tail _ (List.Mem.tail _ (List.Mem.tail _ (List.Mem.tail _ (List.Mem.tail _ (List.Mem.tail _ (List.Mem.head _)))))))))))))))
  have la := H.lt (w5.heap.size) 0 (.int .i64 y) (List.Mem.tail _ (List.Mem.tail _ (List.Mem.tail _ (List.Mem.tail _ (List.Mem.tail _ (List.Mem.tail _ (List.Mem.tail _ (List.Mem.tail _ (List.Mem.tail _ (List.Mem.tail _ (List.Mem.tail _ (List.Mem.tail _ (List.Mem.head _)))))))))))))
  have cb0 := H.cell (w6.heap.size) 0 (.int .i64 Y) (List.Mem.tail _ (List.Mem.tail _ (List.Mem.tail _ (List.Mem.tail _ (List.Mem.tail _ (List.Mem.tail _ (List.Mem.head _)))))))
  have cb1 := H.cell (w6.heap.size) 1 (.int .i64 M) (List.Mem.tail _ (List.Mem.tail _ (List.Mem.tail _ (List.Mem.tail _ (List.Mem.tail _ (List.Mem.tail _ (List.Mem.tail _ (List.Mem.head _))))))))
  have cb2 := H.cell (w6.heap.size) 2 (.int .i64 D) (List.Mem.tail _ (List.Mem.tail _ (List.Mem.tail _ (List.Mem.tail _ (List.Mem.tail _ (List.Mem.tail _ (List.Mem.tail _ (List.Mem.tail _ (List.Mem.head _)))))))))
  have lb := H.lt (w6.heap.size) 0 (.int .i64 Y) (List.Mem.tail _ (List.Mem.tail _ (List.Mem.tail _ (List.Mem.tail _ (List.Mem.tail _ (List.Mem.tail _ (List.Mem.head _)))))))
  have cc0 := H.cell (w7.heap.size) 0 (.int .i64 y) (List.Mem.head _)
  have cc1 := H.cell (w7.heap.size) 1 (.int .i64 m) (List.Mem.tail _ (List.Mem.head _))
  have cc2 := H.cell (w7.heap.size) 2 (.int .i64 d2) (List.Mem.tail _ (List.Mem.tail _ (List.Mem.head _)))
  have lc := H.lt (w7.heap.size) 0 (.int .i64 y) (List.Mem.head _)
  go_wp2_with fail
  clear ca0 ca1 ca2 la cb0 cb1 cb2 lb cc0 cc1 cc2 lc
  go_ret
  exact ⟨rfl, H.old⟩

theorem mback_walk (n j k : Int) (w : World) (hL : Lens w) (hn : -9223372036854775808 ≤ n ∧ n < 9223372036854775808) (hj : -32768 ≤ j ∧ j < 32768) (hk : -32768 ≤ k ∧ k < 32768) : Calls Tryd.prog 6 #[.int .i64 n, .int .i16 j, .int .i16 k] w fun e w' => e = .returned (.bool true) ∧ Below w.heap.size w w' := by
  by_cases h : n < 1 ∨ 3652059 < n
  · exact mback_out n j k w hL h
  · obtain ⟨y, m, d, hm, hb⟩ := day_of n (by omega) (by omega)
    obtain ⟨P, hP⟩ : ∃ P, j.tmod 3000 = P := ⟨_, rfl⟩
    obtain ⟨Q, hQ⟩ : ∃ Q, k.tmod 3000 = Q := ⟨_, rfl⟩
    by_cases f : 12 * y + m + P < 13 ∨ 120000 < 12 * y + m + P
    · exact mback_far n j k P Q w hL (by omega) hP hQ hj hk (move_far y m d hm hb f)
    · obtain ⟨Y, M, h1, h2, h3, h4, hM⟩ : ∃ Y M : Int, 1 ≤ Y ∧ Y ≤ 9999 ∧ 1 ≤ M ∧ M ≤ 12 ∧ 12 * Y + M = 12 * y + m + P :=
        ⟨(12 * y + m + P - 1) / 12, (12 * y + m + P - 1) % 12 + 1, by omega, by omega, by omega, by omega, by omega⟩
      have e0 : ∀ (D l : Int), dm false y m d D l = min d (ln D l) := fun D l => by unfold dm; simp
      have e1 : ∀ (D a b : Int), dm false Y M D a b = min D (ln a b) := fun D a b => by unfold dm; simp
      have hD := dm_may false y m d Y M hm h1 h2 h3 h4
      rw [e0] at hD
      obtain ⟨D, hDe⟩ : ∃ D, min d (ln Y M) = D := ⟨_, rfl⟩
      rw [hDe] at hD
      have hm' := hm
      obtain ⟨y1, y2, m1, m2, d1, d2⟩ := hm'
      have M1 : MoveIs n P false (nb Y M D) 0 := move_in y m d Y M D hm hb h1 h2 h3 h4 hM ((e0 _ _).trans hDe) rfl
      have O1 : DayIs n y m d 0 := Or.inl ⟨hm, hb, rfl⟩
      have O2 : DayIs (nb Y M D) Y M D 0 := Or.inl ⟨hD, rfl, rfl⟩
      have M2 : MoveIs (nb Y M D) (-P) false (nb y m (min D (ln y m))) 0 := move_in Y M D y m _ hD rfl y1 y2 m1 m2 (by omega) (e1 _ _ _) rfl
      have hD' := dm_may false Y M D y m hD y1 y2 m1 m2
      rw [e1] at hD'
      have M3 : ∃ z u g, MoveIs (nb Y M D) Q false z g ∧ MoveIs n (P + Q) false u g ∧ (D = d → z = u) := by
        by_cases f2 : 12 * Y + M + Q < 13 ∨ 120000 < 12 * Y + M + Q
        · exact ⟨0, 0, 3, move_far Y M D hD rfl f2, move_far y m d hm hb (by omega), fun _ => rfl⟩
        · obtain ⟨V, U, v1, v2, v3, v4, hV⟩ : ∃ V U : Int, 1 ≤ V ∧ V ≤ 9999 ∧ 1 ≤ U ∧ U ≤ 12 ∧ 12 * V + U = 12 * Y + M + Q :=
            ⟨(12 * Y + M + Q - 1) / 12, (12 * Y + M + Q - 1) % 12 + 1, by omega, by omega, by omega, by omega, by omega⟩
          exact ⟨_, _, 0, move_in Y M D V U _ hD rfl v1 v2 v3 v4 hV (e1 _ _ _) rfl, move_in y m d V U _ hm hb v1 v2 v3 v4 (by omega) (e0 _ _) rfl, fun e => by rw [e]⟩
      obtain ⟨z, u, g, m3, m4, ez⟩ := M3
      by_cases hDd : D = d
      · obtain rfl := ez hDd
        subst hDd
        have e2 : nb y m (min D (ln y m)) = n := by rw [Int.min_eq_left d2]; exact hb
        rw [e2] at M2
        exact mback_same n j k P Q _ y m D Y M _ g w hL (by omega) hP hQ hj hk M1 M2 O1 O2 m3 m4
      · refine mback_cut n j k P Q _ y m d Y M D _ _ z u g w hL (by omega) hP hQ hj hk M1 M2 O1 O2 (Or.inl ⟨hD', rfl, rfl⟩) ?_ hDd m3 m4
        intro e
        have := (nb_inj _ _ _ _ _ _ hD' hm (e.trans hb.symm)).2.2
        omega
end Go.Proofs.YtmbhcomkdcodfaaDoor
