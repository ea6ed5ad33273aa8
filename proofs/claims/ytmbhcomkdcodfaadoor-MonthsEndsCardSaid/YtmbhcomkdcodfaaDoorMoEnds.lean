/- MonthsEnds: the walk. -/
import Derived.Test.YtmbhcomkdcodfaaDoorMoShown
namespace Go.Proofs.YtmbhcomkdcodfaaDoor
open Go.RowKit
set_option linter.unusedVariables false
set_option linter.unusedSimpArgs false

set_option maxHeartbeats 4000000 in
set_option maxRecDepth 100000 in
theorem mends_out (n : Int) (w : World) (hL : Lens w) (h : n < 1 ∨ 3652059 < n) :
    Calls Tryd.prog 4 #[.int .i64 n] w fun e w' => e = .returned (.bool true) ∧ Below w.heap.size w w' := by
  have H := (Held.start w).add (f := lensF) hL
  clear hL
  have E1 := Lib.hid (end_out h)
  have D1 : Hid (decide (1 ≤ n ∧ n ≤ 3652059) = false) := Lib.hid (by rw [decide_eq_false_iff_not]; omega)
  have T1 := Lib.hid (last_out h)
  clear h
  go_enter Tryd.func4, Tryd.ntmps4
  go_wp2_with fail
  (with_reducible refine (mshown_any _ (H.lens (List.Mem.head _))).mono ?_)
  rintro e w1 ⟨rfl, hb⟩
  replace H := H.below hb
  clear hb
  go_wp2_with fail
  (with_reducible refine (end_any n 0 3 _ (H.lens (List.Mem.head _)) E1.out).mono ?_)
  rintro e w2 ⟨rfl, hb⟩
  replace H := H.below hb
  clear hb
  go_wp2_with fail
  (with_reducible refine (rday_is n false _ D1.out).mono ?_)
  rintro e w3 ⟨rfl, hb⟩
  replace H := H.below hb
  clear hb
  go_wp2_with fail
  (with_reducible refine (last_any n false _ (H.lens (List.Mem.head _)) T1.out).mono ?_)
  rintro e w4 ⟨rfl, hb⟩
  replace H := H.below hb
  clear hb
  go_wp2_with fail
  go_ret
  exact ⟨rfl, H.old⟩

set_option maxHeartbeats 4000000 in
set_option maxRecDepth 100000 in
theorem mends_lt (n y m l : Int) (w : World) (hL : Lens w) (h : may y m l) (hn : nb y m l = n) (hl : ln y m = l) (ht : n = 3652059) :
    Calls Tryd.prog 4 #[.int .i64 n] w fun e w' => e = .returned (.bool true) ∧ Below w.heap.size w w' := by
  have H := (Held.start w).add (f := lensF) hL
  clear hL
  have bd := nb_bd y m l h
  rw [hn] at bd
  have D1 : Hid (decide (1 ≤ n ∧ n ≤ 3652059) = true) := Lib.hid (by rw [decide_eq_true_eq]; omega)
  have O1 : Hid (DayIs n y m l 0) := Lib.hid (Or.inl ⟨h, hn, rfl⟩)
  have E1 : Hid (EndIs n n 0) := Lib.hid (end_in y m l h hn (by rw [hl]; exact hn))
  have T2 : Hid (LastIs n true) := Lib.hid (last_in y m l h hn (by rw [hl]; simp))
  clear h hn hl
  subst ht
  go_enter Tryd.func4, Tryd.ntmps4
  go_wp2_with fail
  (with_reducible refine (mshown_any _ (H.lens (List.Mem.head _))).mono ?_)
  rintro e w1 ⟨rfl, hb⟩
  replace H := H.below hb
  clear hb
  go_wp2_with fail
  (with_reducible refine (end_any 3652059 3652059 0 _ (H.lens (List.Mem.head _)) E1.out).mono ?_)
  rintro e w2 ⟨rfl, hb⟩
  replace H := H.below hb
  clear hb
  go_wp2_with fail
  (with_reducible refine (rday_is 3652059 true _ D1.out).mono ?_)
  rintro e w3 ⟨rfl, hb⟩
  replace H := H.below hb
  clear hb
  go_wp2_with fail
  (with_reducible refine (rof_any 3652059 y m l 0 _ O1.out).mono ?_)
  rintro e w4 ⟨rfl, hb⟩
  replace H := H.below hb
  clear hb
  go_wp2_with fail
  replace H := (H.triple (w4.heap.size) (.int .i64 y) (.int .i64 m) (.int .i64 l) 35 rfl)
  (with_reducible refine (rof_any 3652059 y m l 0 _ O1.out).mono ?_)
  rintro e w5 ⟨rfl, hb⟩
  replace H := H.below hb
  clear hb
  have ca0 := H.cell (w4.heap.size) 0 (.int .i64 y) (List.Mem.head _)
  have ca1 := H.cell (w4.heap.size) 1 (.int .i64 m) (List.Mem.tail _ (List.Mem.head _))
  have ca2 := H.cell (w4.heap.size) 2 (.int .i64 l) (List.Mem.tail _ (List.Mem.tail _ (List.Mem.head _)))
  have la := H.lt (w4.heap.size) 0 (.int .i64 y) (List.Mem.head _)
  go_wp2_with fail
  clear ca0 ca1 ca2 la
  replace H := (H.triple (w5.heap.size) (.int .i64 y) (.int .i64 m) (.int .i64 l) 35 rfl)
  (with_reducible refine (last_any 3652059 true _ (H.lens (List.Mem.tail _ (List.Mem.tail _ (List.Mem.tail _ (List.Mem.tail _ (List.Mem.tail _ (List.Mem.tail _ (List.Mem.tail _ (List.Mem.tail _ (List.Mem.tail _ (List.Mem.tail _ (List.Mem.tail _ (List.Mem.tail _ (List.Mem.head _)))))))))))))) T2.out).mono ?_)
  rintro e w6 ⟨rfl, hb⟩
  replace H := H.below hb
  clear hb
  have ca0 := H.cell (w4.heap.size) 0 (.int .i64 y) (List.Mem.tail _ (List.Mem.tail _ (List.Mem.tail _ (List.Mem.tail _ (List.Mem.tail _ (List.Mem.tail _ (List.Mem.head _)))))))
  have ca1 := H.cell (w4.heap.size) 1 (.int .i64 m) (List.Mem.tail _ (List.Mem.tail _ (List.Mem.tail _ (List.Mem.tail _ (List.Mem.tail _ (List.Mem.tail _ (List.Mem.tail _ (List.Mem.head _))))))))
  have ca2 := H.cell (w4.heap.size) 2 (.int .i64 l) (List.Mem.tail _ (List.Mem.tail _ (List.Mem.tail _ (List.Mem.tail _ (List.Mem.tail _ (List.Mem.tail _ (List.Mem.tail _ (List.Mem.tail _ (List.Mem.head _)))))))))
  have la := H.lt (w4.heap.size) 0 (.int .i64 y) (List.Mem.tail _ (List.Mem.tail _ (List.Mem.tail _ (List.Mem.tail _ (List.Mem.tail _ (List.Mem.tail _ (List.Mem.head _)))))))
  have cb0 := H.cell (w5.heap.size) 0 (.int .i64 y) (List.Mem.head _)
  have cb1 := H.cell (w5.heap.size) 1 (.int .i64 m) (List.Mem.tail _ (List.Mem.head _))
  have cb2 := H.cell (w5.heap.size) 2 (.int .i64 l) (List.Mem.tail _ (List.Mem.tail _ (List.Mem.head _)))
  have lb := H.lt (w5.heap.size) 0 (.int .i64 y) (List.Mem.head _)
  go_wp2_with fail
  clear ca0 ca1 ca2 la cb0 cb1 cb2 lb
  (with_reducible refine (last_any 3652059 true _ (H.lens (List.Mem.tail _ (List.Mem.tail _ (List.Mem.tail _ (List.Mem.tail _ (List.Mem.tail _ (List.Mem.tail _ (List.Mem.tail _ (List.Mem.tail _ (List.Mem.tail _ (List.Mem.tail _ (List.Mem.tail _ (List.Mem.tail _ (List.Mem.head _)))))))))))))) T2.out).mono ?_)
  rintro e w7 ⟨rfl, hb⟩
  replace H := H.below hb
  clear hb
  go_wp2_with fail
  go_ret
  exact ⟨rfl, H.old⟩

set_option maxHeartbeats 4000000 in
set_option maxRecDepth 100000 in
theorem mends_l (n y m l Y M : Int) (w : World) (hL : Lens w) (h : may y m l) (hn : nb y m l = n) (hl : ln y m = l) (h2 : may Y M 1) (hn2 : nb Y M 1 = n + 1) :
    Calls Tryd.prog 4 #[.int .i64 n] w fun e w' => e = .returned (.bool true) ∧ Below w.heap.size w w' := by
  have H := (Held.start w).add (f := lensF) hL
  clear hL
  have bd := nb_bd y m l h
  rw [hn] at bd
  have D1 : Hid (decide (1 ≤ n ∧ n ≤ 3652059) = true) := Lib.hid (by rw [decide_eq_true_eq]; omega)
  have O1 : Hid (DayIs n y m l 0) := Lib.hid (Or.inl ⟨h, hn, rfl⟩)
  have E1 : Hid (EndIs n n 0) := Lib.hid (end_in y m l h hn (by rw [hl]; exact hn))
  have T2 : Hid (LastIs n true) := Lib.hid (last_in y m l h hn (by rw [hl]; simp))
  have b3 := nb_bd Y M 1 h2
  rw [hn2] at b3
  have O3 : Hid (DayIs (n + 1) Y M 1 0) := Lib.hid (Or.inl ⟨h2, hn2, rfl⟩)
  have t4 : (n == 3652059) = false := beq_eq_false_iff_ne.2 (by omega)
  clear h2 hn2
  clear h hn hl
  go_enter Tryd.func4, Tryd.ntmps4
  go_wp2_with fail
  (with_reducible refine (mshown_any _ (H.lens (List.Mem.head _))).mono ?_)
  rintro e w1 ⟨rfl, hb⟩
  replace H := H.below hb
  clear hb
  go_wp2_with fail
  (with_reducible refine (end_any n n 0 _ (H.lens (List.Mem.head _)) E1.out).mono ?_)
  rintro e w2 ⟨rfl, hb⟩
  replace H := H.below hb
  clear hb
  go_wp2_with fail
  (with_reducible refine (rday_is n true _ D1.out).mono ?_)
  rintro e w3 ⟨rfl, hb⟩
  replace H := H.below hb
  clear hb
  go_wp2_with fail
  (with_reducible refine (rof_any n y m l 0 _ O1.out).mono ?_)
  rintro e w4 ⟨rfl, hb⟩
  replace H := H.below hb
  clear hb
  go_wp2_with fail
  replace H := (H.triple (w4.heap.size) (.int .i64 y) (.int .i64 m) (.int .i64 l) 35 rfl)
  (with_reducible refine (rof_any n y m l 0 _ O1.out).mono ?_)
  rintro e w5 ⟨rfl, hb⟩
  replace H := H.below hb
  clear hb
  have ca0 := H.cell (w4.heap.size) 0 (.int .i64 y) (List.Mem.head _)
  have ca1 := H.cell (w4.heap.size) 1 (.int .i64 m) (List.Mem.tail _ (List.Mem.head _))
  have ca2 := H.cell (w4.heap.size) 2 (.int .i64 l) (List.Mem.tail _ (List.Mem.tail _ (List.Mem.head _)))
  have la := H.lt (w4.heap.size) 0 (.int .i64 y) (List.Mem.head _)
  go_wp2_with fail
  clear ca0 ca1 ca2 la
  replace H := (H.triple (w5.heap.size) (.int .i64 y) (.int .i64 m) (.int .i64 l) 35 rfl)
  (with_reducible refine (last_any n true _ (H.lens (List.Mem.tail _ (List.Mem.tail _ (List.Mem.tail _ (List.Mem.tail _ (List.Mem.tail _ (List.Mem.tail _ (List.Mem.tail _ (List.Mem.tail _ (List.Mem.tail _ (List.Mem.tail _ (List.Mem.tail _ (List.Mem.tail _ (List.Mem.head _)))))))))))))) T2.out).mono ?_)
  rintro e w6 ⟨rfl, hb⟩
  replace H := H.below hb
  clear hb
  have ca0 := H.cell (w4.heap.size) 0 (.int .i64 y) (List.Mem.tail _ (List.Mem.tail _ (List.Mem.tail _ (List.Mem.tail _ (List.Mem.tail _ (List.Mem.tail _ (List.Mem.head _)))))))
  have ca1 := H.cell (w4.heap.size) 1 (.int .i64 m) (List.Mem.tail _ (List.Mem.tail _ (List.Mem.tail _ (List.Mem.tail _ (List.Mem.tail _ (List.Mem.tail _ (List.Mem.tail _ (List.Mem.head _))))))))
  have ca2 := H.cell (w4.heap.size) 2 (.int .i64 l) (List.Mem.tail _ (List.Mem.tail _ (List.Mem.tail _ (List.Mem.tail _ (List.Mem.tail _ (List.Mem.tail _ (List.Mem.tail _ (List.Mem.tail _ (List.Mem.head _)))))))))
  have la := H.lt (w4.heap.size) 0 (.int .i64 y) (List.Mem.tail _ (List.Mem.tail _ (List.Mem.tail _ (List.Mem.tail _ (List.Mem.tail _ (List.Mem.tail _ (List.Mem.head _)))))))
  have cb0 := H.cell (w5.heap.size) 0 (.int .i64 y) (List.Mem.head _)
  have cb1 := H.cell (w5.heap.size) 1 (.int .i64 m) (List.Mem.tail _ (List.Mem.head _))
  have cb2 := H.cell (w5.heap.size) 2 (.int .i64 l) (List.Mem.tail _ (List.Mem.tail _ (List.Mem.head _)))
  have lb := H.lt (w5.heap.size) 0 (.int .i64 y) (List.Mem.head _)
  go_wp2_with fail
  clear ca0 ca1 ca2 la cb0 cb1 cb2 lb
  (with_reducible refine (last_any n true _ (H.lens (List.Mem.tail _ (List.Mem.tail _ (List.Mem.tail _ (List.Mem.tail _ (List.Mem.tail _ (List.Mem.tail _ (List.Mem.tail _ (List.Mem.tail _ (List.Mem.tail _ (List.Mem.tail _ (List.Mem.tail _ (List.Mem.tail _ (List.Mem.head _)))))))))))))) T2.out).mono ?_)
  rintro e w7 ⟨rfl, hb⟩
  replace H := H.below hb
  clear hb
  have ca0 := H.cell (w4.heap.size) 0 (.int .i64 y) (List.Mem.tail _ (List.Mem.tail _ (List.Mem.tail _ (List.Mem.tail _ (List.Mem.tail _ (List.Mem.tail _ (List.Mem.head _)))))))
  have ca1 := H.cell (w4.heap.size) 1 (.int .i64 m) (List.Mem.tail _ (List.Mem.tail _ (List.Mem.tail _ (List.Mem.tail _ (List.Mem.tail _ (List.Mem.tail _ (List.Mem.tail _ (List.Mem.head _))))))))
  have ca2 := H.cell (w4.heap.size) 2 (.int .i64 l) (List.Mem.tail _ (List.Mem.tail _ (List.Mem.tail _ (List.Mem.tail _ (List.Mem.tail _ (List.Mem.tail _ (List.Mem.tail _ (List.Mem.tail _ (List.Mem.head _)))))))))
  have la := H.lt (w4.heap.size) 0 (.int .i64 y) (List.Mem.tail _ (List.Mem.tail _ (List.Mem.tail _ (List.Mem.tail _ (List.Mem.tail _ (List.Mem.tail _ (List.Mem.head _)))))))
  have cb0 := H.cell (w5.heap.size) 0 (.int .i64 y) (List.Mem.head _)
  have cb1 := H.cell (w5.heap.size) 1 (.int .i64 m) (List.Mem.tail _ (List.Mem.head _))
  have cb2 := H.cell (w5.heap.size) 2 (.int .i64 l) (List.Mem.tail _ (List.Mem.tail _ (List.Mem.head _)))
  have lb := H.lt (w5.heap.size) 0 (.int .i64 y) (List.Mem.head _)
  go_wp2_with fail
  clear ca0 ca1 ca2 la cb0 cb1 cb2 lb
  (with_reducible refine (rof_any (n + 1) Y M 1 0 _ O3.out).mono ?_)
  rintro e w8 ⟨rfl, hb⟩
  replace H := H.below hb
  clear hb
  go_wp2_with fail
  replace H := (H.triple (w8.heap.size) (.int .i64 Y) (.int .i64 M) (.int .i64 1) 35 rfl)
  go_ret
  exact ⟨rfl, H.old⟩

set_option maxHeartbeats 4000000 in
set_option maxRecDepth 100000 in
theorem mends_dt (n x y m d l : Int) (w : World) (hL : Lens w) (h : may y m d) (hn : nb y m d = n) (hl : ln y m = l) (hx : nb y m l = x) (hd : d ≠ l) (ht : x = 3652059) :
    Calls Tryd.prog 4 #[.int .i64 n] w fun e w' => e = .returned (.bool true) ∧ Below w.heap.size w w' := by
  have H := (Held.start w).add (f := lensF) hL
  clear hL
  have bd := nb_bd y m d h
  rw [hn] at bd
  have D1 : Hid (decide (1 ≤ n ∧ n ≤ 3652059) = true) := Lib.hid (by rw [decide_eq_true_eq]; omega)
  have O1 : Hid (DayIs n y m d 0) := Lib.hid (Or.inl ⟨h, hn, rfl⟩)
  have hml : may y m l := by have := end_may y m d h; rwa [hl] at this
  have b2 := nb_bd y m l hml
  rw [hx] at b2
  have E1 : Hid (EndIs n x 0) := Lib.hid (end_in y m d h hn (by rw [hl]; exact hx))
  have O2 : Hid (DayIs x y m l 0) := Lib.hid (Or.inl ⟨hml, hx, rfl⟩)
  have T2 : Hid (LastIs x true) := Lib.hid (last_in y m l hml hx (by rw [hl]; simp))
  have T1 : Hid (LastIs n false) := Lib.hid (last_in y m d h hn (by rw [hl]; simp [hd]))
  have hlt : n < x ∧ x ≤ n + 30 := by
    have a : ah y + am y m + d = n := hn
    have b : ah y + am y m + l = x := hx
    have c := ln_le y m
    obtain ⟨-, -, -, -, a5, a6⟩ := h
    omega
  have t1 : ¬ x < n := by omega
  have t2 : ¬ x > n + 30 := by omega
  have t3 : (n == x) = false := beq_eq_false_iff_ne.2 (by omega)
  clear hlt hml hx hd
  clear h hn hl
  subst ht
  go_enter Tryd.func4, Tryd.ntmps4
  go_wp2_with fail
  (with_reducible refine (mshown_any _ (H.lens (List.Mem.head _))).mono ?_)
  rintro e w1 ⟨rfl, hb⟩
  replace H := H.below hb
  clear hb
  go_wp2_with fail
  (with_reducible refine (end_any n 3652059 0 _ (H.lens (List.Mem.head _)) E1.out).mono ?_)
  rintro e w2 ⟨rfl, hb⟩
  replace H := H.below hb
  clear hb
  go_wp2_with fail
  (with_reducible refine (rday_is n true _ D1.out).mono ?_)
  rintro e w3 ⟨rfl, hb⟩
  replace H := H.below hb
  clear hb
  go_wp2_with fail
  (with_reducible refine (rof_any n y m d 0 _ O1.out).mono ?_)
  rintro e w4 ⟨rfl, hb⟩
  replace H := H.below hb
  clear hb
  go_wp2_with fail
  replace H := (H.triple (w4.heap.size) (.int .i64 y) (.int .i64 m) (.int .i64 d) 35 rfl)
  (with_reducible refine (rof_any 3652059 y m l 0 _ O2.out).mono ?_)
  rintro e w5 ⟨rfl, hb⟩
  replace H := H.below hb
  clear hb
  have ca0 := H.cell (w4.heap.size) 0 (.int .i64 y) (List.Mem.head _)
  have ca1 := H.cell (w4.heap.size) 1 (.int .i64 m) (List.Mem.tail _ (List.Mem.head _))
  have ca2 := H.cell (w4.heap.size) 2 (.int .i64 d) (List.Mem.tail _ (List.Mem.tail _ (List.Mem.head _)))
  have la := H.lt (w4.heap.size) 0 (.int .i64 y) (List.Mem.head _)
  go_wp2_with fail
  clear ca0 ca1 ca2 la
  replace H := (H.triple (w5.heap.size) (.int .i64 y) (.int .i64 m) (.int .i64 l) 35 rfl)
  (with_reducible refine (last_any 3652059 true _ (H.lens (List.Mem.tail _ (List.Mem.tail _ (List.Mem.tail _ (List.Mem.tail _ (List.Mem.tail _ (List.Mem.tail _ (List.Mem.tail _ (List.Mem.tail _ (List.Mem.tail _ (List.Mem.tail _ (List.Mem.tail _ (List.Mem.tail _ (List.Mem.head _)))))))))))))) T2.out).mono ?_)
  rintro e w6 ⟨rfl, hb⟩
  replace H := H.below hb
  clear hb
  have ca0 := H.cell (w4.heap.size) 0 (.int .i64 y) (List.Mem.tail _ (List.Mem.tail _ (List.Mem.tail _ (List.Mem.tail _ (List.Mem.tail _ (List.Mem.tail _ (List.Mem.head _)))))))
  have ca1 := H.cell (w4.heap.size) 1 (.int .i64 m) (List.Mem.tail _ (List.Mem.tail _ (List.Mem.tail _ (List.Mem.tail _ (List.Mem.tail _ (List.Mem.tail _ (List.Mem.tail _ (List.Mem.head _))))))))
  have ca2 := H.cell (w4.heap.size) 2 (.int .i64 d) (List.Mem.tail _ (List.Mem.tail _ (List.Mem.tail _ (List.Mem.tail _ (List.Mem.tail _ (List.Mem.tail _ (List.Mem.tail _ (List.Mem.tail _ (List.Mem.head _)))))))))
  have la := H.lt (w4.heap.size) 0 (.int .i64 y) (List.Mem.tail _ (List.Mem.tail _ (List.Mem.tail _ (List.Mem.tail _ (List.Mem.tail _ (List.Mem.tail _ (List.Mem.head _)))))))
  have cb0 := H.cell (w5.heap.size) 0 (.int .i64 y) (List.Mem.head _)
  have cb1 := H.cell (w5.heap.size) 1 (.int .i64 m) (List.Mem.tail _ (List.Mem.head _))
  have cb2 := H.cell (w5.heap.size) 2 (.int .i64 l) (List.Mem.tail _ (List.Mem.tail _ (List.Mem.head _)))
  have lb := H.lt (w5.heap.size) 0 (.int .i64 y) (List.Mem.head _)
  go_wp2_with fail
  clear ca0 ca1 ca2 la cb0 cb1 cb2 lb
  (with_reducible refine (last_any n false _ (H.lens (List.Mem.tail _ (List.Mem.tail _ (List.Mem.tail _ (List.Mem.tail _ (List.Mem.tail _ (List.Mem.tail _ (List.Mem.tail _ (List.Mem.tail _ (List.Mem.tail _ (List.Mem.tail _ (List.Mem.tail _ (List.Mem.tail _ (List.Mem.head _)))))))))))))) T1.out).mono ?_)
  rintro e w7 ⟨rfl, hb⟩
  replace H := H.below hb
  clear hb
  go_wp2_with fail
  go_ret
  exact ⟨rfl, H.old⟩

set_option maxHeartbeats 4000000 in
set_option maxRecDepth 100000 in
theorem mends_d (n x y m d l Y M : Int) (w : World) (hL : Lens w) (h : may y m d) (hn : nb y m d = n) (hl : ln y m = l) (hx : nb y m l = x) (hd : d ≠ l) (h2 : may Y M 1) (hn2 : nb Y M 1 = x + 1) :
    Calls Tryd.prog 4 #[.int .i64 n] w fun e w' => e = .returned (.bool true) ∧ Below w.heap.size w w' := by
  have H := (Held.start w).add (f := lensF) hL
  clear hL
  have bd := nb_bd y m d h
  rw [hn] at bd
  have D1 : Hid (decide (1 ≤ n ∧ n ≤ 3652059) = true) := Lib.hid (by rw [decide_eq_true_eq]; omega)
  have O1 : Hid (DayIs n y m d 0) := Lib.hid (Or.inl ⟨h, hn, rfl⟩)
  have hml : may y m l := by have := end_may y m d h; rwa [hl] at this
  have b2 := nb_bd y m l hml
  rw [hx] at b2
  have E1 : Hid (EndIs n x 0) := Lib.hid (end_in y m d h hn (by rw [hl]; exact hx))
  have O2 : Hid (DayIs x y m l 0) := Lib.hid (Or.inl ⟨hml, hx, rfl⟩)
  have T2 : Hid (LastIs x true) := Lib.hid (last_in y m l hml hx (by rw [hl]; simp))
  have T1 : Hid (LastIs n false) := Lib.hid (last_in y m d h hn (by rw [hl]; simp [hd]))
  have hlt : n < x ∧ x ≤ n + 30 := by
    have a : ah y + am y m + d = n := hn
    have b : ah y + am y m + l = x := hx
    have c := ln_le y m
    obtain ⟨-, -, -, -, a5, a6⟩ := h
    omega
  have t1 : ¬ x < n := by omega
  have t2 : ¬ x > n + 30 := by omega
  have t3 : (n == x) = false := beq_eq_false_iff_ne.2 (by omega)
  clear hlt hml hx hd
  have b3 := nb_bd Y M 1 h2
  rw [hn2] at b3
  have O3 : Hid (DayIs (x + 1) Y M 1 0) := Lib.hid (Or.inl ⟨h2, hn2, rfl⟩)
  have t4 : (x == 3652059) = false := beq_eq_false_iff_ne.2 (by omega)
  clear h2 hn2
  clear h hn hl
  go_enter Tryd.func4, Tryd.ntmps4
  go_wp2_with fail
  (with_reducible refine (mshown_any _ (H.lens (List.Mem.head _))).mono ?_)
  rintro e w1 ⟨rfl, hb⟩
  replace H := H.below hb
  clear hb
  go_wp2_with fail
  (with_reducible refine (end_any n x 0 _ (H.lens (List.Mem.head _)) E1.out).mono ?_)
  rintro e w2 ⟨rfl, hb⟩
  replace H := H.below hb
  clear hb
  go_wp2_with fail
  (with_reducible refine (rday_is n true _ D1.out).mono ?_)
  rintro e w3 ⟨rfl, hb⟩
  replace H := H.below hb
  clear hb
  go_wp2_with fail
  (with_reducible refine (rof_any n y m d 0 _ O1.out).mono ?_)
  rintro e w4 ⟨rfl, hb⟩
  replace H := H.below hb
  clear hb
  go_wp2_with fail
  replace H := (H.triple (w4.heap.size) (.int .i64 y) (.int .i64 m) (.int .i64 d) 35 rfl)
  (with_reducible refine (rof_any x y m l 0 _ O2.out).mono ?_)
  rintro e w5 ⟨rfl, hb⟩
  replace H := H.below hb
  clear hb
  have ca0 := H.cell (w4.heap.size) 0 (.int .i64 y) (List.Mem.head _)
  have ca1 := H.cell (w4.heap.size) 1 (.int .i64 m) (List.Mem.tail _ (List.Mem.head _))
  have ca2 := H.cell (w4.heap.size) 2 (.int .i64 d) (List.Mem.tail _ (List.Mem.tail _ (List.Mem.head _)))
  have la := H.lt (w4.heap.size) 0 (.int .i64 y) (List.Mem.head _)
  go_wp2_with fail
  clear ca0 ca1 ca2 la
  replace H := (H.triple (w5.heap.size) (.int .i64 y) (.int .i64 m) (.int .i64 l) 35 rfl)
  (with_reducible refine (last_any x true _ (H.lens (List.Mem.tail _ (List.Mem.tail _ (List.Mem.tail _ (List.Mem.tail _ (List.Mem.tail _ (List.Mem.tail _ (List.Mem.tail _ (List.Mem.tail _ (List.Mem.tail _ (List.Mem.tail _ (List.Mem.tail _ (List.Mem.tail _ (List.Mem.head _)))))))))))))) T2.out).mono ?_)
  rintro e w6 ⟨rfl, hb⟩
  replace H := H.below hb
  clear hb
  have ca0 := H.cell (w4.heap.size) 0 (.int .i64 y) (List.Mem.tail _ (List.Mem.tail _ (List.Mem.tail _ (List.Mem.tail _ (List.Mem.tail _ (List.Mem.tail _ (List.Mem.head _)))))))
  have ca1 := H.cell (w4.heap.size) 1 (.int .i64 m) (List.Mem.tail _ (List.Mem.tail _ (List.Mem.tail _ (List.Mem.tail _ (List.Mem.tail _ (List.Mem.tail _ (List.Mem.tail _ (List.Mem.head _))))))))
  have ca2 := H.cell (w4.heap.size) 2 (.int .i64 d) (List.Mem.tail _ (List.Mem.tail _ (List.Mem.tail _ (List.Mem.tail _ (List.Mem.tail _ (List.Mem.tail _ (List.Mem.tail _ (List.Mem.tail _ (List.Mem.head _)))))))))
  have la := H.lt (w4.heap.size) 0 (.int .i64 y) (List.Mem.tail _ (List.Mem.tail _ (List.Mem.tail _ (List.Mem.tail _ (List.Mem.tail _ (List.Mem.tail _ (List.Mem.head _)))))))
  have cb0 := H.cell (w5.heap.size) 0 (.int .i64 y) (List.Mem.head _)
  have cb1 := H.cell (w5.heap.size) 1 (.int .i64 m) (List.Mem.tail _ (List.Mem.head _))
  have cb2 := H.cell (w5.heap.size) 2 (.int .i64 l) (List.Mem.tail _ (List.Mem.tail _ (List.Mem.head _)))
  have lb := H.lt (w5.heap.size) 0 (.int .i64 y) (List.Mem.head _)
  go_wp2_with fail
  clear ca0 ca1 ca2 la cb0 cb1 cb2 lb
  (with_reducible refine (last_any n false _ (H.lens (List.Mem.tail _ (List.Mem.tail _ (List.Mem.tail _ (List.Mem.tail _ (List.Mem.tail _ (List.Mem.tail _ (List.Mem.tail _ (List.Mem.tail _ (List.Mem.tail _ (List.Mem.tail _ (List.Mem.tail _ (List.Mem.tail _ (List.Mem.head _)))))))))))))) T1.out).mono ?_)
  rintro e w7 ⟨rfl, hb⟩
  replace H := H.below hb
  clear hb
  have ca0 := H.cell (w4.heap.size) 0 (.int .i64 y) (List.Mem.tail _ (List.Mem.tail _ (List.Mem.tail _ (List.Mem.tail _ (List.Mem.tail _ (List.Mem.tail _ (List.Mem.head _)))))))
  have ca1 := H.cell (w4.heap.size) 1 (.int .i64 m) (List.Mem.tail _ (List.Mem.tail _ (List.Mem.tail _ (List.Mem.tail _ (List.Mem.tail _ (List.Mem.tail _ (List.Mem.tail _ (List.Mem.head _))))))))
  have ca2 := H.cell (w4.heap.size) 2 (.int .i64 d) (List.Mem.tail _ (List.Mem.tail _ (List.Mem.tail _ (List.Mem.tail _ (List.Mem.tail _ (List.Mem.tail _ (List.Mem.tail _ (List.Mem.tail _ (List.Mem.head _)))))))))
  have la := H.lt (w4.heap.size) 0 (.int .i64 y) (List.Mem.tail _ (List.Mem.tail _ (List.Mem.tail _ (List.Mem.tail _ (List.Mem.tail _ (List.Mem.tail _ (List.Mem.head _)))))))
  have cb0 := H.cell (w5.heap.size) 0 (.int .i64 y) (List.Mem.head _)
  have cb1 := H.cell (w5.heap.size) 1 (.int .i64 m) (List.Mem.tail _ (List.Mem.head _))
  have cb2 := H.cell (w5.heap.size) 2 (.int .i64 l) (List.Mem.tail _ (List.Mem.tail _ (List.Mem.head _)))
  have lb := H.lt (w5.heap.size) 0 (.int .i64 y) (List.Mem.head _)
  go_wp2_with fail
  clear ca0 ca1 ca2 la cb0 cb1 cb2 lb
  (with_reducible refine (rof_any (x + 1) Y M 1 0 _ O3.out).mono ?_)
  rintro e w8 ⟨rfl, hb⟩
  replace H := H.below hb
  clear hb
  go_wp2_with fail
  replace H := (H.triple (w8.heap.size) (.int .i64 Y) (.int .i64 M) (.int .i64 1) 35 rfl)
  go_ret
  exact ⟨rfl, H.old⟩

/-- The day behind a month's last one is the first of a month. -/
theorem next_first (y m : Int) (h : may y m (ln y m)) (hx : nb y m (ln y m) ≠ 3652059) : ∃ Y M, may Y M 1 ∧ nb Y M 1 = nb y m (ln y m) + 1 := by
  obtain ⟨y1, y2, m1, m2, d1, d2⟩ := h
  have st := am_step y m m1 m2
  by_cases h12 : m = 12
  · subst h12
    have e := am_end y
    have e2 : am y (12 + 1) = am y 13 := rfl
    rw [e2, e] at st
    have e3 := ah_step y
    have hb : nb y 12 (ln y 12) = ah y + am y 12 + ln y 12 := rfl
    have y3 : y ≠ 9999 := by
      rintro rfl
      have e4 : ah (9999 + 1) = 3652059 := ah_end
      omega
    refine ⟨y + 1, 1, ⟨by omega, by omega, by omega, by omega, by omega, ?_⟩, ?_⟩
    · have := ln_ge (y + 1) 1 (by omega) (by omega); omega
    · unfold nb; rw [am_one]; omega
  · refine ⟨y, m + 1, ⟨y1, y2, by omega, by omega, by omega, ?_⟩, ?_⟩
    · have := ln_ge y (m + 1) (by omega) (by omega); omega
    · unfold nb; omega
theorem mends_walk (n : Int) (w : World) (hL : Lens w) (hn : -9223372036854775808 ≤ n ∧ n < 9223372036854775808) : Calls Tryd.prog 4 #[.int .i64 n] w fun e w' => e = .returned (.bool true) ∧ Below w.heap.size w w' := by
  by_cases h : n < 1 ∨ 3652059 < n
  · exact mends_out n w hL h
  · obtain ⟨y, m, d, hm, hb⟩ := day_of n (by omega) (by omega)
    have hm2 := end_may y m d hm
    by_cases hd : d = ln y m
    · subst hd
      by_cases ht : n = 3652059
      · exact mends_lt n y m _ w hL hm hb rfl ht
      · obtain ⟨Y, M, a, b⟩ := next_first y m hm2 (by omega)
        exact mends_l n y m _ Y M w hL hm hb rfl a (by omega)
    · by_cases ht : nb y m (ln y m) = 3652059
      · exact mends_dt n _ y m d _ w hL hm hb rfl rfl hd ht
      · obtain ⟨Y, M, a, b⟩ := next_first y m hm2 ht
        exact mends_d n _ y m d _ Y M w hL hm hb rfl rfl hd a b
end Go.Proofs.YtmbhcomkdcodfaaDoor
