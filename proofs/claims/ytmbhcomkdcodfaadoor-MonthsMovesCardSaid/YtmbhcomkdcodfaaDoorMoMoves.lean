/- MonthsMoves: the walk. -/
import Derived.Test.YtmbhcomkdcodfaaDoorMoShown
namespace Go.Proofs.YtmbhcomkdcodfaaDoor
open Go.RowKit
set_option linter.unusedVariables false
set_option linter.unusedSimpArgs false

set_option maxHeartbeats 4000000 in
set_option maxRecDepth 100000 in
theorem mmoves_out (n k : Int) (b : Bool) (w : World) (hL : Lens w) (h : n < 1 ∨ 3652059 < n) :
    Calls Tryd.prog 5 #[.int .i64 n, .int .i16 k, .bool b] w fun e w' => e = .returned (.bool true) ∧ Below w.heap.size w w' := by
  have H := (Held.start w).add (f := lensF) hL
  clear hL
  have D1 : Hid (decide (1 ≤ n ∧ n ≤ 3652059) = false) := Lib.hid (by rw [decide_eq_false_iff_not]; omega)
  clear h
  go_enter Tryd.func5, Tryd.ntmps5
  go_wp2_with fail
  (with_reducible refine (mshown_any _ (H.lens (List.Mem.head _))).mono ?_)
  rintro e w1 ⟨rfl, hb⟩
  replace H := H.below hb
  clear hb
  go_wp2_with fail
  (with_reducible refine (rday_is n false _ D1.out).mono ?_)
  rintro e w2 ⟨rfl, hb⟩
  replace H := H.below hb
  clear hb
  go_wp2_with fail
  go_ret
  exact ⟨rfl, H.old⟩

set_option maxHeartbeats 4000000 in
set_option maxRecDepth 100000 in
theorem mmoves_low (n k y m d : Int) (b : Bool) (w : World) (hL : Lens w) (h : may y m d) (hn : nb y m d = n) (hk : -32768 ≤ k ∧ k < 32768) (hf : 12 * y + m - 1 + k < 12) :
    Calls Tryd.prog 5 #[.int .i64 n, .int .i16 k, .bool b] w fun e w' => e = .returned (.bool true) ∧ Below w.heap.size w w' := by
  have H := (Held.start w).add (f := lensF) hL
  clear hL
  have bd := nb_bd y m d h
  rw [hn] at bd
  have D1 : Hid (decide (1 ≤ n ∧ n ≤ 3652059) = true) := Lib.hid (by rw [decide_eq_true_eq]; omega)
  have O1 : Hid (DayIs n y m d 0) := Lib.hid (Or.inl ⟨h, hn, rfl⟩)
  have M1 : Hid (MoveIs n k b 0 3) := Lib.hid (move_far y m d h hn (by omega))
  obtain ⟨y1, y2, m1, m2, d1, d2⟩ := h
  clear d2 hn
  go_enter Tryd.func5, Tryd.ntmps5
  go_wp2_with fail
  (with_reducible refine (mshown_any _ (H.lens (List.Mem.head _))).mono ?_)
  rintro e w1 ⟨rfl, hb⟩
  replace H := H.below hb
  clear hb
  go_wp2_with fail
  (with_reducible refine (rday_is n true _ D1.out).mono ?_)
  rintro e w2 ⟨rfl, hb⟩
  replace H := H.below hb
  clear hb
  go_wp2_with fail
  (with_reducible refine (rof_any n y m d 0 _ O1.out).mono ?_)
  rintro e w3 ⟨rfl, hb⟩
  replace H := H.below hb
  clear hb
  go_wp2_with fail
  replace H := (H.triple (w3.heap.size) (.int .i64 y) (.int .i64 m) (.int .i64 d) 35 rfl)
  (with_reducible refine (move_any n k 0 3 b _ (H.lens (List.Mem.tail _ (List.Mem.tail _ (List.Mem.tail _ (List.Mem.tail _ (List.Mem.tail _ (List.Mem.tail _ (List.Mem.head _)))))))) M1.out).mono ?_)
  rintro e w4 ⟨rfl, hb⟩
  replace H := H.below hb
  clear hb
  go_wp2_with fail
  go_ret
  exact ⟨rfl, H.old⟩

set_option maxHeartbeats 4000000 in
set_option maxRecDepth 100000 in
theorem mmoves_high (n k y m d : Int) (b : Bool) (w : World) (hL : Lens w) (h : may y m d) (hn : nb y m d = n) (hk : -32768 ≤ k ∧ k < 32768) (hf : 12 * y + m - 1 + k > 119999) :
    Calls Tryd.prog 5 #[.int .i64 n, .int .i16 k, .bool b] w fun e w' => e = .returned (.bool true) ∧ Below w.heap.size w w' := by
  have H := (Held.start w).add (f := lensF) hL
  clear hL
  have bd := nb_bd y m d h
  rw [hn] at bd
  have D1 : Hid (decide (1 ≤ n ∧ n ≤ 3652059) = true) := Lib.hid (by rw [decide_eq_true_eq]; omega)
  have O1 : Hid (DayIs n y m d 0) := Lib.hid (Or.inl ⟨h, hn, rfl⟩)
  have M1 : Hid (MoveIs n k b 0 3) := Lib.hid (move_far y m d h hn (by omega))
  obtain ⟨y1, y2, m1, m2, d1, d2⟩ := h
  clear d2 hn
  go_enter Tryd.func5, Tryd.ntmps5
  go_wp2_with fail
  (with_reducible refine (mshown_any _ (H.lens (List.Mem.head _))).mono ?_)
  rintro e w1 ⟨rfl, hb⟩
  replace H := H.below hb
  clear hb
  go_wp2_with fail
  (with_reducible refine (rday_is n true _ D1.out).mono ?_)
  rintro e w2 ⟨rfl, hb⟩
  replace H := H.below hb
  clear hb
  go_wp2_with fail
  (with_reducible refine (rof_any n y m d 0 _ O1.out).mono ?_)
  rintro e w3 ⟨rfl, hb⟩
  replace H := H.below hb
  clear hb
  go_wp2_with fail
  replace H := (H.triple (w3.heap.size) (.int .i64 y) (.int .i64 m) (.int .i64 d) 35 rfl)
  (with_reducible refine (move_any n k 0 3 b _ (H.lens (List.Mem.tail _ (List.Mem.tail _ (List.Mem.tail _ (List.Mem.tail _ (List.Mem.tail _ (List.Mem.tail _ (List.Mem.head _)))))))) M1.out).mono ?_)
  rintro e w4 ⟨rfl, hb⟩
  replace H := H.below hb
  clear hb
  go_wp2_with fail
  go_ret
  exact ⟨rfl, H.old⟩

set_option maxHeartbeats 4000000 in
set_option maxRecDepth 100000 in
theorem mmoves_stay (n k y m l q Y M x : Int) (w : World) (hL : Lens w) (h : may y m l) (hn : nb y m l = n) (hl : ln y m = l) (hk : -32768 ≤ k ∧ k < 32768) (h1 : 1 ≤ Y) (h2 : Y ≤ 9999) (h3 : 1 ≤ M) (h4 : M ≤ 12) (hM : 12 * Y + M = 12 * y + m + k) (hq : ln Y M = q) (hx : nb Y M q = x) :
    Calls Tryd.prog 5 #[.int .i64 n, .int .i16 k, .bool true] w fun e w' => e = .returned (.bool true) ∧ Below w.heap.size w w' := by
  have H := (Held.start w).add (f := lensF) hL
  clear hL
  have bd := nb_bd y m l h
  rw [hn] at bd
  have D1 : Hid (decide (1 ≤ n ∧ n ≤ 3652059) = true) := Lib.hid (by rw [decide_eq_true_eq]; omega)
  have O1 : Hid (DayIs n y m l 0) := Lib.hid (Or.inl ⟨h, hn, rfl⟩)
  have hD : dm true y m l Y M = q := by unfold dm; rw [hl, if_pos ⟨rfl, rfl⟩, hq]
  have hmD : may Y M q := by have := dm_may true y m l Y M h h1 h2 h3 h4; rwa [hD] at this
  have b2 := nb_bd Y M q hmD
  rw [hx] at b2
  have M1 : Hid (MoveIs n k true x 0) := Lib.hid (move_in y m l Y M _ h hn h1 h2 h3 h4 hM hD hx)
  have D2 : Hid (decide (1 ≤ x ∧ x ≤ 3652059) = true) := Lib.hid (by rw [decide_eq_true_eq]; omega)
  have O2 : Hid (DayIs x Y M q 0) := Lib.hid (Or.inl ⟨hmD, hx, rfl⟩)
  have LQ := Lib.hid hq
  have C := Lib.hid (fun v => rlength_any y m v)
  rw [hl] at C
  obtain ⟨y1, y2, m1, m2, d1, d2⟩ := h
  have t1 : ¬ 12 * y + m - 1 + k < 12 := by omega
  have t2 : ¬ 12 * y + m - 1 + k > 119999 := by omega
  have e1 : Hid (12 * y + m - 1 + k = 12 * Y + M - 1) := Lib.hid (by omega)
  clear hM
  clear d2 hn hD hmD hx hq hl
  go_enter Tryd.func5, Tryd.ntmps5
  go_wp2_with fail
  (with_reducible refine (mshown_any _ (H.lens (List.Mem.head _))).mono ?_)
  rintro e w1 ⟨rfl, hb⟩
  replace H := H.below hb
  clear hb
  go_wp2_with fail
  (with_reducible refine (rday_is n true _ D1.out).mono ?_)
  rintro e w2 ⟨rfl, hb⟩
  replace H := H.below hb
  clear hb
  go_wp2_with fail
  (with_reducible refine (rof_any n y m l 0 _ O1.out).mono ?_)
  rintro e w3 ⟨rfl, hb⟩
  replace H := H.below hb
  clear hb
  go_wp2_with fail
  replace H := (H.triple (w3.heap.size) (.int .i64 y) (.int .i64 m) (.int .i64 l) 35 rfl)
  (with_reducible refine (move_any n k x 0 true _ (H.lens (List.Mem.tail _ (List.Mem.tail _ (List.Mem.tail _ (List.Mem.tail _ (List.Mem.tail _ (List.Mem.tail _ (List.Mem.head _)))))))) M1.out).mono ?_)
  rintro e w4 ⟨rfl, hb⟩
  replace H := H.below hb
  clear hb
  go_wp2_with fail
  (with_reducible refine (rday_is x true _ D2.out).mono ?_)
  rintro e w5 ⟨rfl, hb⟩
  replace H := H.below hb
  clear hb
  have ca0 := H.cell (w3.heap.size) 0 (.int .i64 y) (List.Mem.head _)
  have ca1 := H.cell (w3.heap.size) 1 (.int .i64 m) (List.Mem.tail _ (List.Mem.head _))
  have ca2 := H.cell (w3.heap.size) 2 (.int .i64 l) (List.Mem.tail _ (List.Mem.tail _ (List.Mem.head _)))
  have la := H.lt (w3.heap.size) 0 (.int .i64 y) (List.Mem.head _)
  go_wp2_with fail
  clear ca0 ca1 ca2 la
  (with_reducible refine (rof_any x Y M q 0 _ O2.out).mono ?_)
  rintro e w6 ⟨rfl, hb⟩
  replace H := H.below hb
  clear hb
  have ca0 := H.cell (w3.heap.size) 0 (.int .i64 y) (List.Mem.head _)
  have ca1 := H.cell (w3.heap.size) 1 (.int .i64 m) (List.Mem.tail _ (List.Mem.head _))
  have ca2 := H.cell (w3.heap.size) 2 (.int .i64 l) (List.Mem.tail _ (List.Mem.tail _ (List.Mem.head _)))
  have la := H.lt (w3.heap.size) 0 (.int .i64 y) (List.Mem.head _)
  go_wp2_with fail
  clear ca0 ca1 ca2 la
  replace H := (H.triple (w6.heap.size) (.int .i64 Y) (.int .i64 M) (.int .i64 q) 35 rfl)
  (with_reducible refine (rlength_is Y M q _ LQ.out).mono ?_)
  rintro e w7 ⟨rfl, hb⟩
  replace H := H.below hb
  clear hb
  have ca0 := H.cell (w3.heap.size) 0 (.int .i64 y) (List.Mem.tail _ (List.Mem.tail _ (List.Mem.tail _ (List.Mem.tail _ (List.Mem.tail _ (List.Mem.tail _ (List.Mem.head _)))))))
  have ca1 := H.cell (w3.heap.size) 1 (.int .i64 m) (List.Mem.tail _ (List.Mem.tail _ (List.Mem.tail _ (List.Mem.tail _ (List.Mem.tail _ (List.Mem.tail _ (List.Mem.tail _ (List.Mem.head _))))))))
  have ca2 := H.cell (w3.heap.size) 2 (.int .i64 l) (List.Mem.tail _ (List.Mem.tail _ (List.Mem.tail _ (List.Mem.tail _ (List.Mem.tail _ (List.Mem.tail _ (List.Mem.tail _ (List.Mem.tail _ (List.Mem.head _)))))))))
  have la := H.lt (w3.heap.size) 0 (.int .i64 y) (List.Mem.tail _ (List.Mem.tail _ (List.Mem.tail _ (List.Mem.tail _ (List.Mem.tail _ (List.Mem.tail _ (List.Mem.head _)))))))
  have cb0 := H.cell (w6.heap.size) 0 (.int .i64 Y) (List.Mem.head _)
  have cb1 := H.cell (w6.heap.size) 1 (.int .i64 M) (List.Mem.tail _ (List.Mem.head _))
  have cb2 := H.cell (w6.heap.size) 2 (.int .i64 q) (List.Mem.tail _ (List.Mem.tail _ (List.Mem.head _)))
  have lb := H.lt (w6.heap.size) 0 (.int .i64 Y) (List.Mem.head _)
  have HK := H.old
  clear H
  go_wp2
  go_quiet ((go_at_call 20; with_reducible exact quietLeft (C.out _)))
  rw [e1.out]
  go_wp2
  go_ret
  exact ⟨rfl, belowDrewN HK _⟩

set_option maxHeartbeats 4000000 in
set_option maxRecDepth 100000 in
theorem mmoves_same1 (n k y m d l q Y M x : Int) (w : World) (hL : Lens w) (h : may y m d) (hn : nb y m d = n) (hl : ln y m = l) (hk : -32768 ≤ k ∧ k < 32768) (h1 : 1 ≤ Y) (h2 : Y ≤ 9999) (h3 : 1 ≤ M) (h4 : M ≤ 12) (hM : 12 * Y + M = 12 * y + m + k) (hq : ln Y M = q) (hx : nb Y M d = x) (hc : d ≤ q) (hd : d ≠ l) :
    Calls Tryd.prog 5 #[.int .i64 n, .int .i16 k, .bool true] w fun e w' => e = .returned (.bool true) ∧ Below w.heap.size w w' := by
  have H := (Held.start w).add (f := lensF) hL
  clear hL
  have bd := nb_bd y m d h
  rw [hn] at bd
  have D1 : Hid (decide (1 ≤ n ∧ n ≤ 3652059) = true) := Lib.hid (by rw [decide_eq_true_eq]; omega)
  have O1 : Hid (DayIs n y m d 0) := Lib.hid (Or.inl ⟨h, hn, rfl⟩)
  have hD : dm true y m d Y M = d := by unfold dm; rw [hl, if_neg (fun hh => hd hh.2), hq]; omega
  have hmD : may Y M d := by have := dm_may true y m d Y M h h1 h2 h3 h4; rwa [hD] at this
  have b2 := nb_bd Y M d hmD
  rw [hx] at b2
  have M1 : Hid (MoveIs n k true x 0) := Lib.hid (move_in y m d Y M _ h hn h1 h2 h3 h4 hM hD hx)
  have D2 : Hid (decide (1 ≤ x ∧ x ≤ 3652059) = true) := Lib.hid (by rw [decide_eq_true_eq]; omega)
  have O2 : Hid (DayIs x Y M d 0) := Lib.hid (Or.inl ⟨hmD, hx, rfl⟩)
  have LQ := Lib.hid hq
  have C := Lib.hid (fun v => rlength_any y m v)
  rw [hl] at C
  obtain ⟨y1, y2, m1, m2, d1, d2⟩ := h
  have t1 : ¬ 12 * y + m - 1 + k < 12 := by omega
  have t2 : ¬ 12 * y + m - 1 + k > 119999 := by omega
  have e1 : Hid (12 * y + m - 1 + k = 12 * Y + M - 1) := Lib.hid (by omega)
  clear hM
  have t5 : (d == l) = false := beq_eq_false_iff_ne.2 hd
  clear d2 hn hD hmD hx hq hl hd
  go_enter Tryd.func5, Tryd.ntmps5
  go_wp2_with fail
  (with_reducible refine (mshown_any _ (H.lens (List.Mem.head _))).mono ?_)
  rintro e w1 ⟨rfl, hb⟩
  replace H := H.below hb
  clear hb
  go_wp2_with fail
  (with_reducible refine (rday_is n true _ D1.out).mono ?_)
  rintro e w2 ⟨rfl, hb⟩
  replace H := H.below hb
  clear hb
  go_wp2_with fail
  (with_reducible refine (rof_any n y m d 0 _ O1.out).mono ?_)
  rintro e w3 ⟨rfl, hb⟩
  replace H := H.below hb
  clear hb
  go_wp2_with fail
  replace H := (H.triple (w3.heap.size) (.int .i64 y) (.int .i64 m) (.int .i64 d) 35 rfl)
  (with_reducible refine (move_any n k x 0 true _ (H.lens (List.Mem.tail _ (List.Mem.tail _ (List.Mem.tail _ (List.Mem.tail _ (List.Mem.tail _ (List.Mem.tail _ (List.Mem.head _)))))))) M1.out).mono ?_)
  rintro e w4 ⟨rfl, hb⟩
  replace H := H.below hb
  clear hb
  go_wp2_with fail
  (with_reducible refine (rday_is x true _ D2.out).mono ?_)
  rintro e w5 ⟨rfl, hb⟩
  replace H := H.below hb
  clear hb
  have ca0 := H.cell (w3.heap.size) 0 (.int .i64 y) (List.Mem.head _)
  have ca1 := H.cell (w3.heap.size) 1 (.int .i64 m) (List.Mem.tail _ (List.Mem.head _))
  have ca2 := H.cell (w3.heap.size) 2 (.int .i64 d) (List.Mem.tail _ (List.Mem.tail _ (List.Mem.head _)))
  have la := H.lt (w3.heap.size) 0 (.int .i64 y) (List.Mem.head _)
  go_wp2_with fail
  clear ca0 ca1 ca2 la
  (with_reducible refine (rof_any x Y M d 0 _ O2.out).mono ?_)
  rintro e w6 ⟨rfl, hb⟩
  replace H := H.below hb
  clear hb
  have ca0 := H.cell (w3.heap.size) 0 (.int .i64 y) (List.Mem.head _)
  have ca1 := H.cell (w3.heap.size) 1 (.int .i64 m) (List.Mem.tail _ (List.Mem.head _))
  have ca2 := H.cell (w3.heap.size) 2 (.int .i64 d) (List.Mem.tail _ (List.Mem.tail _ (List.Mem.head _)))
  have la := H.lt (w3.heap.size) 0 (.int .i64 y) (List.Mem.head _)
  go_wp2_with fail
  clear ca0 ca1 ca2 la
  replace H := (H.triple (w6.heap.size) (.int .i64 Y) (.int .i64 M) (.int .i64 d) 35 rfl)
  (with_reducible refine (rlength_is Y M q _ LQ.out).mono ?_)
  rintro e w7 ⟨rfl, hb⟩
  replace H := H.below hb
  clear hb
  have ca0 := H.cell (w3.heap.size) 0 (.int .i64 y) (List.Mem.tail _ (List.Mem.tail _ (List.Mem.tail _ (List.Mem.tail _ (List.Mem.tail _ (List.Mem.tail _ (List.Mem.head _)))))))
  have ca1 := H.cell (w3.heap.size) 1 (.int .i64 m) (List.Mem.tail _ (List.Mem.tail _ (List.Mem.tail _ (List.Mem.tail _ (List.Mem.tail _ (List.Mem.tail _ (List.Mem.tail _ (List.Mem.head _))))))))
  have ca2 := H.cell (w3.heap.size) 2 (.int .i64 d) (List.Mem.tail _ (List.Mem.tail _ (List.Mem.tail _ (List.Mem.tail _ (List.Mem.tail _ (List.Mem.tail _ (List.Mem.tail _ (List.Mem.tail _ (List.Mem.head _)))))))))
  have la := H.lt (w3.heap.size) 0 (.int .i64 y) (List.Mem.tail _ (List.Mem.tail _ (List.Mem.tail _ (List.Mem.tail _ (List.Mem.tail _ (List.Mem.tail _ (List.Mem.head _)))))))
  have cb0 := H.cell (w6.heap.size) 0 (.int .i64 Y) (List.Mem.head _)
  have cb1 := H.cell (w6.heap.size) 1 (.int .i64 M) (List.Mem.tail _ (List.Mem.head _))
  have cb2 := H.cell (w6.heap.size) 2 (.int .i64 d) (List.Mem.tail _ (List.Mem.tail _ (List.Mem.head _)))
  have lb := H.lt (w6.heap.size) 0 (.int .i64 Y) (List.Mem.head _)
  have HK := H.old
  clear H
  go_wp2
  go_quiet ((go_at_call 20; with_reducible exact quietLeft (C.out _)))
  rw [e1.out]
  go_wp2
  go_ret
  exact ⟨rfl, belowDrewN HK _⟩

set_option maxHeartbeats 4000000 in
set_option maxRecDepth 100000 in
theorem mmoves_cut1 (n k y m d l q Y M x : Int) (w : World) (hL : Lens w) (h : may y m d) (hn : nb y m d = n) (hl : ln y m = l) (hk : -32768 ≤ k ∧ k < 32768) (h1 : 1 ≤ Y) (h2 : Y ≤ 9999) (h3 : 1 ≤ M) (h4 : M ≤ 12) (hM : 12 * Y + M = 12 * y + m + k) (hq : ln Y M = q) (hx : nb Y M q = x) (hc : q < d) (hd : d ≠ l) :
    Calls Tryd.prog 5 #[.int .i64 n, .int .i16 k, .bool true] w fun e w' => e = .returned (.bool true) ∧ Below w.heap.size w w' := by
  have H := (Held.start w).add (f := lensF) hL
  clear hL
  have bd := nb_bd y m d h
  rw [hn] at bd
  have D1 : Hid (decide (1 ≤ n ∧ n ≤ 3652059) = true) := Lib.hid (by rw [decide_eq_true_eq]; omega)
  have O1 : Hid (DayIs n y m d 0) := Lib.hid (Or.inl ⟨h, hn, rfl⟩)
  have hD : dm true y m d Y M = q := by unfold dm; rw [hl, if_neg (fun hh => hd hh.2), hq]; omega
  have hmD : may Y M q := by have := dm_may true y m d Y M h h1 h2 h3 h4; rwa [hD] at this
  have b2 := nb_bd Y M q hmD
  rw [hx] at b2
  have M1 : Hid (MoveIs n k true x 0) := Lib.hid (move_in y m d Y M _ h hn h1 h2 h3 h4 hM hD hx)
  have D2 : Hid (decide (1 ≤ x ∧ x ≤ 3652059) = true) := Lib.hid (by rw [decide_eq_true_eq]; omega)
  have O2 : Hid (DayIs x Y M q 0) := Lib.hid (Or.inl ⟨hmD, hx, rfl⟩)
  have LQ := Lib.hid hq
  have C := Lib.hid (fun v => rlength_any y m v)
  rw [hl] at C
  obtain ⟨y1, y2, m1, m2, d1, d2⟩ := h
  have t1 : ¬ 12 * y + m - 1 + k < 12 := by omega
  have t2 : ¬ 12 * y + m - 1 + k > 119999 := by omega
  have e1 : Hid (12 * y + m - 1 + k = 12 * Y + M - 1) := Lib.hid (by omega)
  clear hM
  have t3 : (q == d) = false := beq_eq_false_iff_ne.2 (by omega)
  have t4 : d > q := hc
  have t5 : (d == l) = false := beq_eq_false_iff_ne.2 hd
  clear d2 hn hD hmD hx hq hl hd
  go_enter Tryd.func5, Tryd.ntmps5
  go_wp2_with fail
  (with_reducible refine (mshown_any _ (H.lens (List.Mem.head _))).mono ?_)
  rintro e w1 ⟨rfl, hb⟩
  replace H := H.below hb
  clear hb
  go_wp2_with fail
  (with_reducible refine (rday_is n true _ D1.out).mono ?_)
  rintro e w2 ⟨rfl, hb⟩
  replace H := H.below hb
  clear hb
  go_wp2_with fail
  (with_reducible refine (rof_any n y m d 0 _ O1.out).mono ?_)
  rintro e w3 ⟨rfl, hb⟩
  replace H := H.below hb
  clear hb
  go_wp2_with fail
  replace H := (H.triple (w3.heap.size) (.int .i64 y) (.int .i64 m) (.int .i64 d) 35 rfl)
  (with_reducible refine (move_any n k x 0 true _ (H.lens (List.Mem.tail _ (List.Mem.tail _ (List.Mem.tail _ (List.Mem.tail _ (List.Mem.tail _ (List.Mem.tail _ (List.Mem.head _)))))))) M1.out).mono ?_)
  rintro e w4 ⟨rfl, hb⟩
  replace H := H.below hb
  clear hb
  go_wp2_with fail
  (with_reducible refine (rday_is x true _ D2.out).mono ?_)
  rintro e w5 ⟨rfl, hb⟩
  replace H := H.below hb
  clear hb
  have ca0 := H.cell (w3.heap.size) 0 (.int .i64 y) (List.Mem.head _)
  have ca1 := H.cell (w3.heap.size) 1 (.int .i64 m) (List.Mem.tail _ (List.Mem.head _))
  have ca2 := H.cell (w3.heap.size) 2 (.int .i64 d) (List.Mem.tail _ (List.Mem.tail _ (List.Mem.head _)))
  have la := H.lt (w3.heap.size) 0 (.int .i64 y) (List.Mem.head _)
  go_wp2_with fail
  clear ca0 ca1 ca2 la
  (with_reducible refine (rof_any x Y M q 0 _ O2.out).mono ?_)
  rintro e w6 ⟨rfl, hb⟩
  replace H := H.below hb
  clear hb
  have ca0 := H.cell (w3.heap.size) 0 (.int .i64 y) (List.Mem.head _)
  have ca1 := H.cell (w3.heap.size) 1 (.int .i64 m) (List.Mem.tail _ (List.Mem.head _))
  have ca2 := H.cell (w3.heap.size) 2 (.int .i64 d) (List.Mem.tail _ (List.Mem.tail _ (List.Mem.head _)))
  have la := H.lt (w3.heap.size) 0 (.int .i64 y) (List.Mem.head _)
  go_wp2_with fail
  clear ca0 ca1 ca2 la
  replace H := (H.triple (w6.heap.size) (.int .i64 Y) (.int .i64 M) (.int .i64 q) 35 rfl)
  (with_reducible refine (rlength_is Y M q _ LQ.out).mono ?_)
  rintro e w7 ⟨rfl, hb⟩
  replace H := H.below hb
  clear hb
  have ca0 := H.cell (w3.heap.size) 0 (.int .i64 y) (List.Mem.tail _ (List.Mem.tail _ (List.Mem.tail _ (List.Mem.tail _ (List.Mem.tail _ (List.Mem.tail _ (List.Mem.head _)))))))
  have ca1 := H.cell (w3.heap.size) 1 (.int .i64 m) (List.Mem.tail _ (List.Mem.tail _ (List.Mem.tail _ (List.Mem.tail _ (List.Mem.tail _ (List.Mem.tail _ (List.Mem.tail _ (List.Mem.head _))))))))
  have ca2 := H.cell (w3.heap.size) 2 (.int .i64 d) (List.Mem.tail _ (List.Mem.tail _ (List.Mem.tail _ (List.Mem.tail _ (List.Mem.tail _ (List.Mem.tail _ (List.Mem.tail _ (List.Mem.tail _ (List.Mem.head _)))))))))
  have la := H.lt (w3.heap.size) 0 (.int .i64 y) (List.Mem.tail _ (List.Mem.tail _ (List.Mem.tail _ (List.Mem.tail _ (List.Mem.tail _ (List.Mem.tail _ (List.Mem.head _)))))))
  have cb0 := H.cell (w6.heap.size) 0 (.int .i64 Y) (List.Mem.head _)
  have cb1 := H.cell (w6.heap.size) 1 (.int .i64 M) (List.Mem.tail _ (List.Mem.head _))
  have cb2 := H.cell (w6.heap.size) 2 (.int .i64 q) (List.Mem.tail _ (List.Mem.tail _ (List.Mem.head _)))
  have lb := H.lt (w6.heap.size) 0 (.int .i64 Y) (List.Mem.head _)
  have HK := H.old
  clear H
  go_wp2
  go_quiet ((go_at_call 20; with_reducible exact quietLeft (C.out _)))
  rw [e1.out]
  go_wp2
  go_ret
  exact ⟨rfl, belowDrewN HK _⟩

set_option maxHeartbeats 4000000 in
set_option maxRecDepth 100000 in
theorem mmoves_same0 (n k y m d l q Y M x : Int) (w : World) (hL : Lens w) (h : may y m d) (hn : nb y m d = n) (hl : ln y m = l) (hk : -32768 ≤ k ∧ k < 32768) (h1 : 1 ≤ Y) (h2 : Y ≤ 9999) (h3 : 1 ≤ M) (h4 : M ≤ 12) (hM : 12 * Y + M = 12 * y + m + k) (hq : ln Y M = q) (hx : nb Y M d = x) (hc : d ≤ q) :
    Calls Tryd.prog 5 #[.int .i64 n, .int .i16 k, .bool false] w fun e w' => e = .returned (.bool true) ∧ Below w.heap.size w w' := by
  have H := (Held.start w).add (f := lensF) hL
  clear hL
  have bd := nb_bd y m d h
  rw [hn] at bd
  have D1 : Hid (decide (1 ≤ n ∧ n ≤ 3652059) = true) := Lib.hid (by rw [decide_eq_true_eq]; omega)
  have O1 : Hid (DayIs n y m d 0) := Lib.hid (Or.inl ⟨h, hn, rfl⟩)
  have hD : dm false y m d Y M = d := by unfold dm; rw [hq]; simp; omega
  have hmD : may Y M d := by have := dm_may false y m d Y M h h1 h2 h3 h4; rwa [hD] at this
  have b2 := nb_bd Y M d hmD
  rw [hx] at b2
  have M1 : Hid (MoveIs n k false x 0) := Lib.hid (move_in y m d Y M _ h hn h1 h2 h3 h4 hM hD hx)
  have D2 : Hid (decide (1 ≤ x ∧ x ≤ 3652059) = true) := Lib.hid (by rw [decide_eq_true_eq]; omega)
  have O2 : Hid (DayIs x Y M d 0) := Lib.hid (Or.inl ⟨hmD, hx, rfl⟩)
  have LQ := Lib.hid hq
  have C := Lib.hid (fun v => rlength_any y m v)
  rw [hl] at C
  obtain ⟨y1, y2, m1, m2, d1, d2⟩ := h
  have t1 : ¬ 12 * y + m - 1 + k < 12 := by omega
  have t2 : ¬ 12 * y + m - 1 + k > 119999 := by omega
  have e1 : Hid (12 * y + m - 1 + k = 12 * Y + M - 1) := Lib.hid (by omega)
  clear hM
  clear d2 hn hD hmD hx hq hl
  go_enter Tryd.func5, Tryd.ntmps5
  go_wp2_with fail
  (with_reducible refine (mshown_any _ (H.lens (List.Mem.head _))).mono ?_)
  rintro e w1 ⟨rfl, hb⟩
  replace H := H.below hb
  clear hb
  go_wp2_with fail
  (with_reducible refine (rday_is n true _ D1.out).mono ?_)
  rintro e w2 ⟨rfl, hb⟩
  replace H := H.below hb
  clear hb
  go_wp2_with fail
  (with_reducible refine (rof_any n y m d 0 _ O1.out).mono ?_)
  rintro e w3 ⟨rfl, hb⟩
  replace H := H.below hb
  clear hb
  go_wp2_with fail
  replace H := (H.triple (w3.heap.size) (.int .i64 y) (.int .i64 m) (.int .i64 d) 35 rfl)
  (with_reducible refine (move_any n k x 0 false _ (H.lens (List.Mem.tail _ (List.Mem.tail _ (List.Mem.tail _ (List.Mem.tail _ (List.Mem.tail _ (List.Mem.tail _ (List.Mem.head _)))))))) M1.out).mono ?_)
  rintro e w4 ⟨rfl, hb⟩
  replace H := H.below hb
  clear hb
  go_wp2_with fail
  (with_reducible refine (rday_is x true _ D2.out).mono ?_)
  rintro e w5 ⟨rfl, hb⟩
  replace H := H.below hb
  clear hb
  have ca0 := H.cell (w3.heap.size) 0 (.int .i64 y) (List.Mem.head _)
  have ca1 := H.cell (w3.heap.size) 1 (.int .i64 m) (List.Mem.tail _ (List.Mem.head _))
  have ca2 := H.cell (w3.heap.size) 2 (.int .i64 d) (List.Mem.tail _ (List.Mem.tail _ (List.Mem.head _)))
  have la := H.lt (w3.heap.size) 0 (.int .i64 y) (List.Mem.head _)
  go_wp2_with fail
  clear ca0 ca1 ca2 la
  (with_reducible refine (rof_any x Y M d 0 _ O2.out).mono ?_)
  rintro e w6 ⟨rfl, hb⟩
  replace H := H.below hb
  clear hb
  have ca0 := H.cell (w3.heap.size) 0 (.int .i64 y) (List.Mem.head _)
  have ca1 := H.cell (w3.heap.size) 1 (.int .i64 m) (List.Mem.tail _ (List.Mem.head _))
  have ca2 := H.cell (w3.heap.size) 2 (.int .i64 d) (List.Mem.tail _ (List.Mem.tail _ (List.Mem.head _)))
  have la := H.lt (w3.heap.size) 0 (.int .i64 y) (List.Mem.head _)
  go_wp2_with fail
  clear ca0 ca1 ca2 la
  replace H := (H.triple (w6.heap.size) (.int .i64 Y) (.int .i64 M) (.int .i64 d) 35 rfl)
  (with_reducible refine (rlength_is Y M q _ LQ.out).mono ?_)
  rintro e w7 ⟨rfl, hb⟩
  replace H := H.below hb
  clear hb
  have ca0 := H.cell (w3.heap.size) 0 (.int .i64 y) (List.Mem.tail _ (List.Mem.tail _ (List.Mem.tail _ (List.Mem.tail _ (List.Mem.tail _ (List.Mem.tail _ (List.Mem.head _)))))))
  have ca1 := H.cell (w3.heap.size) 1 (.int .i64 m) (List.Mem.tail _ (List.Mem.tail _ (List.Mem.tail _ (List.Mem.tail _ (List.Mem.tail _ (List.Mem.tail _ (List.Mem.tail _ (List.Mem.head _))))))))
  have ca2 := H.cell (w3.heap.size) 2 (.int .i64 d) (List.Mem.tail _ (List.Mem.tail _ (List.Mem.tail _ (List.Mem.tail _ (List.Mem.tail _ (List.Mem.tail _ (List.Mem.tail _ (List.Mem.tail _ (List.Mem.head _)))))))))
  have la := H.lt (w3.heap.size) 0 (.int .i64 y) (List.Mem.tail _ (List.Mem.tail _ (List.Mem.tail _ (List.Mem.tail _ (List.Mem.tail _ (List.Mem.tail _ (List.Mem.head _)))))))
  have cb0 := H.cell (w6.heap.size) 0 (.int .i64 Y) (List.Mem.head _)
  have cb1 := H.cell (w6.heap.size) 1 (.int .i64 M) (List.Mem.tail _ (List.Mem.head _))
  have cb2 := H.cell (w6.heap.size) 2 (.int .i64 d) (List.Mem.tail _ (List.Mem.tail _ (List.Mem.head _)))
  have lb := H.lt (w6.heap.size) 0 (.int .i64 Y) (List.Mem.head _)
  have HK := H.old
  clear H
  go_wp2
  go_quiet (fail)
  rw [e1.out]
  go_wp2
  go_ret
  exact ⟨rfl, belowDrewN HK _⟩

set_option maxHeartbeats 4000000 in
set_option maxRecDepth 100000 in
theorem mmoves_cut0 (n k y m d l q Y M x : Int) (w : World) (hL : Lens w) (h : may y m d) (hn : nb y m d = n) (hl : ln y m = l) (hk : -32768 ≤ k ∧ k < 32768) (h1 : 1 ≤ Y) (h2 : Y ≤ 9999) (h3 : 1 ≤ M) (h4 : M ≤ 12) (hM : 12 * Y + M = 12 * y + m + k) (hq : ln Y M = q) (hx : nb Y M q = x) (hc : q < d) :
    Calls Tryd.prog 5 #[.int .i64 n, .int .i16 k, .bool false] w fun e w' => e = .returned (.bool true) ∧ Below w.heap.size w w' := by
  have H := (Held.start w).add (f := lensF) hL
  clear hL
  have bd := nb_bd y m d h
  rw [hn] at bd
  have D1 : Hid (decide (1 ≤ n ∧ n ≤ 3652059) = true) := Lib.hid (by rw [decide_eq_true_eq]; omega)
  have O1 : Hid (DayIs n y m d 0) := Lib.hid (Or.inl ⟨h, hn, rfl⟩)
  have hD : dm false y m d Y M = q := by unfold dm; rw [hq]; simp; omega
  have hmD : may Y M q := by have := dm_may false y m d Y M h h1 h2 h3 h4; rwa [hD] at this
  have b2 := nb_bd Y M q hmD
  rw [hx] at b2
  have M1 : Hid (MoveIs n k false x 0) := Lib.hid (move_in y m d Y M _ h hn h1 h2 h3 h4 hM hD hx)
  have D2 : Hid (decide (1 ≤ x ∧ x ≤ 3652059) = true) := Lib.hid (by rw [decide_eq_true_eq]; omega)
  have O2 : Hid (DayIs x Y M q 0) := Lib.hid (Or.inl ⟨hmD, hx, rfl⟩)
  have LQ := Lib.hid hq
  have C := Lib.hid (fun v => rlength_any y m v)
  rw [hl] at C
  obtain ⟨y1, y2, m1, m2, d1, d2⟩ := h
  have t1 : ¬ 12 * y + m - 1 + k < 12 := by omega
  have t2 : ¬ 12 * y + m - 1 + k > 119999 := by omega
  have e1 : Hid (12 * y + m - 1 + k = 12 * Y + M - 1) := Lib.hid (by omega)
  clear hM
  have t3 : (q == d) = false := beq_eq_false_iff_ne.2 (by omega)
  have t4 : d > q := hc
  clear d2 hn hD hmD hx hq hl
  go_enter Tryd.func5, Tryd.ntmps5
  go_wp2_with fail
  (with_reducible refine (mshown_any _ (H.lens (List.Mem.head _))).mono ?_)
  rintro e w1 ⟨rfl, hb⟩
  replace H := H.below hb
  clear hb
  go_wp2_with fail
  (with_reducible refine (rday_is n true _ D1.out).mono ?_)
  rintro e w2 ⟨rfl, hb⟩
  replace H := H.below hb
  clear hb
  go_wp2_with fail
  (with_reducible refine (rof_any n y m d 0 _ O1.out).mono ?_)
  rintro e w3 ⟨rfl, hb⟩
  replace H := H.below hb
  clear hb
  go_wp2_with fail
  replace H := (H.triple (w3.heap.size) (.int .i64 y) (.int .i64 m) (.int .i64 d) 35 rfl)
  (with_reducible refine (move_any n k x 0 false _ (H.lens (List.Mem.tail _ (List.Mem.tail _ (List.Mem.tail _ (List.Mem.tail _ (List.Mem.tail _ (List.Mem.tail _ (List.Mem.head _)))))))) M1.out).mono ?_)
  rintro e w4 ⟨rfl, hb⟩
  replace H := H.below hb
  clear hb
  go_wp2_with fail
  (with_reducible refine (rday_is x true _ D2.out).mono ?_)
  rintro e w5 ⟨rfl, hb⟩
  replace H := H.below hb
  clear hb
  have ca0 := H.cell (w3.heap.size) 0 (.int .i64 y) (List.Mem.head _)
  have ca1 := H.cell (w3.heap.size) 1 (.int .i64 m) (List.Mem.tail _ (List.Mem.head _))
  have ca2 := H.cell (w3.heap.size) 2 (.int .i64 d) (List.Mem.tail _ (List.Mem.tail _ (List.Mem.head _)))
  have la := H.lt (w3.heap.size) 0 (.int .i64 y) (List.Mem.head _)
  go_wp2_with fail
  clear ca0 ca1 ca2 la
  (with_reducible refine (rof_any x Y M q 0 _ O2.out).mono ?_)
  rintro e w6 ⟨rfl, hb⟩
  replace H := H.below hb
  clear hb
  have ca0 := H.cell (w3.heap.size) 0 (.int .i64 y) (List.Mem.head _)
  have ca1 := H.cell (w3.heap.size) 1 (.int .i64 m) (List.Mem.tail _ (List.Mem.head _))
  have ca2 := H.cell (w3.heap.size) 2 (.int .i64 d) (List.Mem.tail _ (List.Mem.tail _ (List.Mem.head _)))
  have la := H.lt (w3.heap.size) 0 (.int .i64 y) (List.Mem.head _)
  go_wp2_with fail
  clear ca0 ca1 ca2 la
  replace H := (H.triple (w6.heap.size) (.int .i64 Y) (.int .i64 M) (.int .i64 q) 35 rfl)
  (with_reducible refine (rlength_is Y M q _ LQ.out).mono ?_)
  rintro e w7 ⟨rfl, hb⟩
  replace H := H.below hb
  clear hb
  have ca0 := H.cell (w3.heap.size) 0 (.int .i64 y) (List.Mem.tail _ (List.Mem.tail _ (List.Mem.tail _ (List.Mem.tail _ (List.Mem.tail _ (List.Mem.tail _ (List.Mem.head _)))))))
  have ca1 := H.cell (w3.heap.size) 1 (.int .i64 m) (List.Mem.tail _ (List.Mem.tail _ (List.Mem.tail _ (List.Mem.tail _ (List.Mem.tail _ (List.Mem.tail _ (List.Mem.tail _ (List.Mem.head _))))))))
  have ca2 := H.cell (w3.heap.size) 2 (.int .i64 d) (List.Mem.tail _ (List.Mem.tail _ (List.Mem.tail _ (List.Mem.tail _ (List.Mem.tail _ (List.Mem.tail _ (List.Mem.tail _ (List.Mem.tail _ (List.Mem.head _)))))))))
  have la := H.lt (w3.heap.size) 0 (.int .i64 y) (List.Mem.tail _ (List.Mem.tail _ (List.Mem.tail _ (List.Mem.tail _ (List.Mem.tail _ (List.Mem.tail _ (List.Mem.head _)))))))
  have cb0 := H.cell (w6.heap.size) 0 (.int .i64 Y) (List.Mem.head _)
  have cb1 := H.cell (w6.heap.size) 1 (.int .i64 M) (List.Mem.tail _ (List.Mem.head _))
  have cb2 := H.cell (w6.heap.size) 2 (.int .i64 q) (List.Mem.tail _ (List.Mem.tail _ (List.Mem.head _)))
  have lb := H.lt (w6.heap.size) 0 (.int .i64 Y) (List.Mem.head _)
  have HK := H.old
  clear H
  go_wp2
  go_quiet (fail)
  rw [e1.out]
  go_wp2
  go_ret
  exact ⟨rfl, belowDrewN HK _⟩

theorem mmoves_walk (n k : Int) (b : Bool) (w : World) (hL : Lens w) (hn : -9223372036854775808 ≤ n ∧ n < 9223372036854775808) (hk : -32768 ≤ k ∧ k < 32768) : Calls Tryd.prog 5 #[.int .i64 n, .int .i16 k, .bool b] w fun e w' => e = .returned (.bool true) ∧ Below w.heap.size w w' := by
  by_cases h : n < 1 ∨ 3652059 < n
  · exact mmoves_out n k b w hL h
  · obtain ⟨y, m, d, hm, hb⟩ := day_of n (by omega) (by omega)
    by_cases f1 : 12 * y + m - 1 + k < 12
    · exact mmoves_low n k y m d b w hL hm hb hk f1
    · by_cases f2 : 12 * y + m - 1 + k > 119999
      · exact mmoves_high n k y m d b w hL hm hb hk f2
      · obtain ⟨Y, M, h1, h2, h3, h4, hM⟩ : ∃ Y M : Int, 1 ≤ Y ∧ Y ≤ 9999 ∧ 1 ≤ M ∧ M ≤ 12 ∧ 12 * Y + M = 12 * y + m + k :=
          ⟨(12 * y + m + k - 1) / 12, (12 * y + m + k - 1) % 12 + 1, by omega, by omega, by omega, by omega, by omega⟩
        cases b
        · by_cases hc : d ≤ ln Y M
          · exact mmoves_same0 n k y m d _ _ Y M _ w hL hm hb rfl hk h1 h2 h3 h4 hM rfl rfl hc
          · exact mmoves_cut0 n k y m d _ _ Y M _ w hL hm hb rfl hk h1 h2 h3 h4 hM rfl rfl (by omega)
        · by_cases hd : d = ln y m
          · subst hd
            exact mmoves_stay n k y m _ _ Y M _ w hL hm hb rfl hk h1 h2 h3 h4 hM rfl rfl
          · by_cases hc : d ≤ ln Y M
            · exact mmoves_same1 n k y m d _ _ Y M _ w hL hm hb rfl hk h1 h2 h3 h4 hM rfl rfl hc hd
            · exact mmoves_cut1 n k y m d _ _ Y M _ w hL hm hb rfl hk h1 h2 h3 h4 hM rfl rfl (by omega) hd
end Go.Proofs.YtmbhcomkdcodfaaDoor
