/- CivilBack: the walk. -/
import Derived.Test.YthnondaheppkiaaDoorCShown
namespace Go.Proofs.YthnondaheppkiaaDoor
open Go.RowKit
set_option linter.unusedVariables false
set_option linter.unusedSimpArgs false

set_option maxHeartbeats 4000000 in
set_option maxRecDepth 100000 in
theorem cback_00 (y m d n : Int) (w : World) (hL : Lens w) (h1 : ¬ may y m d) (h2 : n < 1 ∨ 3652059 < n) :
    Calls Tryd.prog 4 #[.agg #[.int .i64 y, .int .i64 m, .int .i64 d], .int .i64 n] w fun e w' => e = .returned (.bool true) ∧ Below w.heap.size w w' := by
  have H := (Held.start w).add (f := lensF) hL
  clear hL
  have HN : Hid (nN y m d = 0 ∧ nE y m d = 3) := Lib.hid (n_no h1)
  have HM := Lib.hid ((mb_not y m d).2 h1)
  clear h1
  have HD : Hid (DayIs n 0 0 0 3) := Lib.hid (Or.inr ⟨h2, rfl, rfl, rfl, rfl⟩)
  by_cases hn : n < 1
  · clear h2
    go_enter Tryd.func4, Tryd.ntmps4
    go_wp2_with fail
    replace H := (H.triple (w.heap.size) (.int .i64 y) (.int .i64 m) (.int .i64 d) 23 rfl)
    (with_reducible refine (cshown_any _ (H.lens (List.Mem.tail _ (List.Mem.tail _ (List.Mem.tail _ (List.Mem.tail _ (List.Mem.tail _ (List.Mem.tail _ (List.Mem.head _))))))))).mono ?_)
    rintro e w1 ⟨rfl, hb⟩
    replace H := H.below hb
    clear hb
    have cc0 := H.cell (w.heap.size) 0 (.int .i64 y) (List.Mem.head _)
    have cc1 := H.cell (w.heap.size) 1 (.int .i64 m) (List.Mem.tail _ (List.Mem.head _))
    have cc2 := H.cell (w.heap.size) 2 (.int .i64 d) (List.Mem.tail _ (List.Mem.tail _ (List.Mem.head _)))
    have lc := H.lt (w.heap.size) 0 (.int .i64 y) (List.Mem.head _)
    go_wp2_with fail
    clear cc0 cc1 cc2 lc
    (with_reducible refine (number_is y m d 0 3 _ (H.lens (List.Mem.tail _ (List.Mem.tail _ (List.Mem.tail _ (List.Mem.tail _ (List.Mem.tail _ (List.Mem.tail _ (List.Mem.head _)))))))) HN.out).mono ?_)
    rintro e w2 ⟨rfl, hb⟩
    replace H := H.below hb
    clear hb
    go_wp2_with fail
    (with_reducible refine (of_any n 0 0 0 3 _ (H.lens (List.Mem.tail _ (List.Mem.tail _ (List.Mem.tail _ (List.Mem.tail _ (List.Mem.tail _ (List.Mem.tail _ (List.Mem.head _)))))))) HD.out).mono ?_)
    rintro e w3 ⟨rfl, hb⟩
    replace H := H.below hb
    clear hb
    have cc0 := H.cell (w.heap.size) 0 (.int .i64 y) (List.Mem.head _)
    have cc1 := H.cell (w.heap.size) 1 (.int .i64 m) (List.Mem.tail _ (List.Mem.head _))
    have cc2 := H.cell (w.heap.size) 2 (.int .i64 d) (List.Mem.tail _ (List.Mem.tail _ (List.Mem.head _)))
    have lc := H.lt (w.heap.size) 0 (.int .i64 y) (List.Mem.head _)
    go_wp2_with fail
    clear cc0 cc1 cc2 lc
    replace H := (H.triple (w3.heap.size) (.int .i64 0) (.int .i64 0) (.int .i64 0) 23 rfl)
    (with_reducible refine (rmay_is y m d false _ HM.out).mono ?_)
    rintro e w4 ⟨rfl, hb⟩
    replace H := H.below hb
    clear hb
    have cc0 := H.cell (w.heap.size) 0 (.int .i64 y) (List.Mem.tail _ (List.Mem.tail _ (List.Mem.tail _ (List.Mem.tail _ (List.Mem.tail _ (List.Mem.tail _ (List.Mem.head _)))))))
    have cc1 := H.cell (w.heap.size) 1 (.int .i64 m) (List.Mem.tail _ (List.Mem.tail _ (List.Mem.tail _ (List.Mem.tail _ (List.Mem.tail _ (List.Mem.tail _ (List.Mem.tail _ (List.Mem.head _))))))))
    have cc2 := H.cell (w.heap.size) 2 (.int .i64 d) (List.Mem.tail _ (List.Mem.tail _ (List.Mem.tail _ (List.Mem.tail _ (List.Mem.tail _ (List.Mem.tail _ (List.Mem.tail _ (List.Mem.tail _ (List.Mem.head _)))))))))
    have lc := H.lt (w.heap.size) 0 (.int .i64 y) (List.Mem.tail _ (List.Mem.tail _ (List.Mem.tail _ (List.Mem.tail _ (List.Mem.tail _ (List.Mem.tail _ (List.Mem.head _)))))))
    have HK := H.old
    clear H
    go_wp2
    go_ret
    exact ⟨rfl, HK⟩
  · have hn2 : 3652059 < n := by omega
    clear h2
    go_enter Tryd.func4, Tryd.ntmps4
    go_wp2_with fail
    replace H := (H.triple (w.heap.size) (.int .i64 y) (.int .i64 m) (.int .i64 d) 23 rfl)
    (with_reducible refine (cshown_any _ (H.lens (List.Mem.tail _ (List.Mem.tail _ (List.Mem.tail _ (List.Mem.tail _ (List.Mem.tail _ (List.Mem.tail _ (List.Mem.head _))))))))).mono ?_)
    rintro e w1 ⟨rfl, hb⟩
    replace H := H.below hb
    clear hb
    have cc0 := H.cell (w.heap.size) 0 (.int .i64 y) (List.Mem.head _)
    have cc1 := H.cell (w.heap.size) 1 (.int .i64 m) (List.Mem.tail _ (List.Mem.head _))
    have cc2 := H.cell (w.heap.size) 2 (.int .i64 d) (List.Mem.tail _ (List.Mem.tail _ (List.Mem.head _)))
    have lc := H.lt (w.heap.size) 0 (.int .i64 y) (List.Mem.head _)
    go_wp2_with fail
    clear cc0 cc1 cc2 lc
    (with_reducible refine (number_is y m d 0 3 _ (H.lens (List.Mem.tail _ (List.Mem.tail _ (List.Mem.tail _ (List.Mem.tail _ (List.Mem.tail _ (List.Mem.tail _ (List.Mem.head _)))))))) HN.out).mono ?_)
    rintro e w2 ⟨rfl, hb⟩
    replace H := H.below hb
    clear hb
    go_wp2_with fail
    (with_reducible refine (of_any n 0 0 0 3 _ (H.lens (List.Mem.tail _ (List.Mem.tail _ (List.Mem.tail _ (List.Mem.tail _ (List.Mem.tail _ (List.Mem.tail _ (List.Mem.head _)))))))) HD.out).mono ?_)
    rintro e w3 ⟨rfl, hb⟩
    replace H := H.below hb
    clear hb
    have cc0 := H.cell (w.heap.size) 0 (.int .i64 y) (List.Mem.head _)
    have cc1 := H.cell (w.heap.size) 1 (.int .i64 m) (List.Mem.tail _ (List.Mem.head _))
    have cc2 := H.cell (w.heap.size) 2 (.int .i64 d) (List.Mem.tail _ (List.Mem.tail _ (List.Mem.head _)))
    have lc := H.lt (w.heap.size) 0 (.int .i64 y) (List.Mem.head _)
    go_wp2_with fail
    clear cc0 cc1 cc2 lc
    replace H := (H.triple (w3.heap.size) (.int .i64 0) (.int .i64 0) (.int .i64 0) 23 rfl)
    (with_reducible refine (rmay_is y m d false _ HM.out).mono ?_)
    rintro e w4 ⟨rfl, hb⟩
    replace H := H.below hb
    clear hb
    have cc0 := H.cell (w.heap.size) 0 (.int .i64 y) (List.Mem.tail _ (List.Mem.tail _ (List.Mem.tail _ (List.Mem.tail _ (List.Mem.tail _ (List.Mem.tail _ (List.Mem.head _)))))))
    have cc1 := H.cell (w.heap.size) 1 (.int .i64 m) (List.Mem.tail _ (List.Mem.tail _ (List.Mem.tail _ (List.Mem.tail _ (List.Mem.tail _ (List.Mem.tail _ (List.Mem.tail _ (List.Mem.head _))))))))
    have cc2 := H.cell (w.heap.size) 2 (.int .i64 d) (List.Mem.tail _ (List.Mem.tail _ (List.Mem.tail _ (List.Mem.tail _ (List.Mem.tail _ (List.Mem.tail _ (List.Mem.tail _ (List.Mem.tail _ (List.Mem.head _)))))))))
    have lc := H.lt (w.heap.size) 0 (.int .i64 y) (List.Mem.tail _ (List.Mem.tail _ (List.Mem.tail _ (List.Mem.tail _ (List.Mem.tail _ (List.Mem.tail _ (List.Mem.head _)))))))
    have HK := H.old
    clear H
    go_wp2
    go_ret
    exact ⟨rfl, HK⟩

set_option maxHeartbeats 4000000 in
set_option maxRecDepth 100000 in
theorem cback_01 (y m d n Y M D : Int) (w : World) (hL : Lens w) (h1 : ¬ may y m d) (h2 : may Y M D) (hn : nb Y M D = n) :
    Calls Tryd.prog 4 #[.agg #[.int .i64 y, .int .i64 m, .int .i64 d], .int .i64 n] w fun e w' => e = .returned (.bool true) ∧ Below w.heap.size w w' := by
  have H := (Held.start w).add (f := lensF) hL
  clear hL
  have HN : Hid (nN y m d = 0 ∧ nE y m d = 3) := Lib.hid (n_no h1)
  have HM := Lib.hid ((mb_not y m d).2 h1)
  clear h1
  have bd := nb_bd Y M D h2
  rw [hn] at bd
  obtain ⟨bd1, bd2⟩ := bd
  have HD : Hid (DayIs n Y M D 0) := Lib.hid (Or.inl ⟨h2, hn, rfl⟩)
  have HO : Hid (nN Y M D = n ∧ nE Y M D = 0) := Lib.hid (by rw [← hn]; exact n_yes h2)
  have HP := Lib.hid ((mb_iff Y M D).2 h2)
  clear h2 hn
  go_enter Tryd.func4, Tryd.ntmps4
  go_wp2_with fail
  replace H := (H.triple (w.heap.size) (.int .i64 y) (.int .i64 m) (.int .i64 d) 23 rfl)
  (with_reducible refine (cshown_any _ (H.lens (List.Mem.tail _ (List.Mem.tail _ (List.Mem.tail _ (List.Mem.tail _ (List.Mem.tail _ (List.Mem.tail _ (List.Mem.head _))))))))).mono ?_)
  rintro e w1 ⟨rfl, hb⟩
  replace H := H.below hb
  clear hb
  have cc0 := H.cell (w.heap.size) 0 (.int .i64 y) (List.Mem.head _)
  have cc1 := H.cell (w.heap.size) 1 (.int .i64 m) (List.Mem.tail _ (List.Mem.head _))
  have cc2 := H.cell (w.heap.size) 2 (.int .i64 d) (List.Mem.tail _ (List.Mem.tail _ (List.Mem.head _)))
  have lc := H.lt (w.heap.size) 0 (.int .i64 y) (List.Mem.head _)
  go_wp2_with fail
  clear cc0 cc1 cc2 lc
  (with_reducible refine (number_is y m d 0 3 _ (H.lens (List.Mem.tail _ (List.Mem.tail _ (List.Mem.tail _ (List.Mem.tail _ (List.Mem.tail _ (List.Mem.tail _ (List.Mem.head _)))))))) HN.out).mono ?_)
  rintro e w2 ⟨rfl, hb⟩
  replace H := H.below hb
  clear hb
  go_wp2_with fail
  (with_reducible refine (of_any n Y M D 0 _ (H.lens (List.Mem.tail _ (List.Mem.tail _ (List.Mem.tail _ (List.Mem.tail _ (List.Mem.tail _ (List.Mem.tail _ (List.Mem.head _)))))))) HD.out).mono ?_)
  rintro e w3 ⟨rfl, hb⟩
  replace H := H.below hb
  clear hb
  have cc0 := H.cell (w.heap.size) 0 (.int .i64 y) (List.Mem.head _)
  have cc1 := H.cell (w.heap.size) 1 (.int .i64 m) (List.Mem.tail _ (List.Mem.head _))
  have cc2 := H.cell (w.heap.size) 2 (.int .i64 d) (List.Mem.tail _ (List.Mem.tail _ (List.Mem.head _)))
  have lc := H.lt (w.heap.size) 0 (.int .i64 y) (List.Mem.head _)
  go_wp2_with fail
  clear cc0 cc1 cc2 lc
  replace H := (H.triple (w3.heap.size) (.int .i64 Y) (.int .i64 M) (.int .i64 D) 23 rfl)
  (with_reducible refine (rmay_is y m d false _ HM.out).mono ?_)
  rintro e w4 ⟨rfl, hb⟩
  replace H := H.below hb
  clear hb
  have cc0 := H.cell (w.heap.size) 0 (.int .i64 y) (List.Mem.tail _ (List.Mem.tail _ (List.Mem.tail _ (List.Mem.tail _ (List.Mem.tail _ (List.Mem.tail _ (List.Mem.head _)))))))
  have cc1 := H.cell (w.heap.size) 1 (.int .i64 m) (List.Mem.tail _ (List.Mem.tail _ (List.Mem.tail _ (List.Mem.tail _ (List.Mem.tail _ (List.Mem.tail _ (List.Mem.tail _ (List.Mem.head _))))))))
  have cc2 := H.cell (w.heap.size) 2 (.int .i64 d) (List.Mem.tail _ (List.Mem.tail _ (List.Mem.tail _ (List.Mem.tail _ (List.Mem.tail _ (List.Mem.tail _ (List.Mem.tail _ (List.Mem.tail _ (List.Mem.head _)))))))))
  have lc := H.lt (w.heap.size) 0 (.int .i64 y) (List.Mem.tail _ (List.Mem.tail _ (List.Mem.tail _ (List.Mem.tail _ (List.Mem.tail _ (List.Mem.tail _ (List.Mem.head _)))))))
  have ca0 := H.cell (w3.heap.size) 0 (.int .i64 Y) (List.Mem.head _)
  have ca1 := H.cell (w3.heap.size) 1 (.int .i64 M) (List.Mem.tail _ (List.Mem.head _))
  have ca2 := H.cell (w3.heap.size) 2 (.int .i64 D) (List.Mem.tail _ (List.Mem.tail _ (List.Mem.head _)))
  have la := H.lt (w3.heap.size) 0 (.int .i64 Y) (List.Mem.head _)
  go_wp2_with fail
  clear cc0 cc1 cc2 lc ca0 ca1 ca2 la
  (with_reducible refine (number_is Y M D n 0 _ (H.lens (List.Mem.tail _ (List.Mem.tail _ (List.Mem.tail _ (List.Mem.tail _ (List.Mem.tail _ (List.Mem.tail _ (List.Mem.tail _ (List.Mem.tail _ (List.Mem.tail _ (List.Mem.tail _ (List.Mem.tail _ (List.Mem.tail _ (List.Mem.head _)))))))))))))) HO.out).mono ?_)
  rintro e w5 ⟨rfl, hb⟩
  replace H := H.below hb
  clear hb
  have ca0 := H.cell (w3.heap.size) 0 (.int .i64 Y) (List.Mem.head _)
  have ca1 := H.cell (w3.heap.size) 1 (.int .i64 M) (List.Mem.tail _ (List.Mem.head _))
  have ca2 := H.cell (w3.heap.size) 2 (.int .i64 D) (List.Mem.tail _ (List.Mem.tail _ (List.Mem.head _)))
  have la := H.lt (w3.heap.size) 0 (.int .i64 Y) (List.Mem.head _)
  go_wp2_with fail
  clear ca0 ca1 ca2 la
  (with_reducible refine (rmay_is Y M D true _ HP.out).mono ?_)
  rintro e w6 ⟨rfl, hb⟩
  replace H := H.below hb
  clear hb
  go_wp2
  go_ret
  exact ⟨rfl, H.old⟩

set_option maxHeartbeats 4000000 in
set_option maxRecDepth 100000 in
theorem cback_10 (y m d n N : Int) (w : World) (hL : Lens w) (h1 : may y m d) (hN : nb y m d = N) (h2 : n < 1 ∨ 3652059 < n) :
    Calls Tryd.prog 4 #[.agg #[.int .i64 y, .int .i64 m, .int .i64 d], .int .i64 n] w fun e w' => e = .returned (.bool true) ∧ Below w.heap.size w w' := by
  have H := (Held.start w).add (f := lensF) hL
  clear hL
  have HN : Hid (nN y m d = N ∧ nE y m d = 0) := Lib.hid (by rw [← hN]; exact n_yes h1)
  have HM := Lib.hid ((mb_iff y m d).2 h1)
  have OB : Hid (DayIs N y m d 0) := Lib.hid (Or.inl ⟨h1, hN, rfl⟩)
  clear h1 hN
  have HD : Hid (DayIs n 0 0 0 3) := Lib.hid (Or.inr ⟨h2, rfl, rfl, rfl, rfl⟩)
  by_cases hn : n < 1
  · clear h2
    go_enter Tryd.func4, Tryd.ntmps4
    go_wp2_with fail
    replace H := (H.triple (w.heap.size) (.int .i64 y) (.int .i64 m) (.int .i64 d) 23 rfl)
    (with_reducible refine (cshown_any _ (H.lens (List.Mem.tail _ (List.Mem.tail _ (List.Mem.tail _ (List.Mem.tail _ (List.Mem.tail _ (List.Mem.tail _ (List.Mem.head _))))))))).mono ?_)
    rintro e w1 ⟨rfl, hb⟩
    replace H := H.below hb
    clear hb
    have cc0 := H.cell (w.heap.size) 0 (.int .i64 y) (List.Mem.head _)
    have cc1 := H.cell (w.heap.size) 1 (.int .i64 m) (List.Mem.tail _ (List.Mem.head _))
    have cc2 := H.cell (w.heap.size) 2 (.int .i64 d) (List.Mem.tail _ (List.Mem.tail _ (List.Mem.head _)))
    have lc := H.lt (w.heap.size) 0 (.int .i64 y) (List.Mem.head _)
    go_wp2_with fail
    clear cc0 cc1 cc2 lc
    (with_reducible refine (number_is y m d N 0 _ (H.lens (List.Mem.tail _ (List.Mem.tail _ (List.Mem.tail _ (List.Mem.tail _ (List.Mem.tail _ (List.Mem.tail _ (List.Mem.head _)))))))) HN.out).mono ?_)
    rintro e w2 ⟨rfl, hb⟩
    replace H := H.below hb
    clear hb
    go_wp2_with fail
    (with_reducible refine (of_any n 0 0 0 3 _ (H.lens (List.Mem.tail _ (List.Mem.tail _ (List.Mem.tail _ (List.Mem.tail _ (List.Mem.tail _ (List.Mem.tail _ (List.Mem.head _)))))))) HD.out).mono ?_)
    rintro e w3 ⟨rfl, hb⟩
    replace H := H.below hb
    clear hb
    have cc0 := H.cell (w.heap.size) 0 (.int .i64 y) (List.Mem.head _)
    have cc1 := H.cell (w.heap.size) 1 (.int .i64 m) (List.Mem.tail _ (List.Mem.head _))
    have cc2 := H.cell (w.heap.size) 2 (.int .i64 d) (List.Mem.tail _ (List.Mem.tail _ (List.Mem.head _)))
    have lc := H.lt (w.heap.size) 0 (.int .i64 y) (List.Mem.head _)
    go_wp2_with fail
    clear cc0 cc1 cc2 lc
    replace H := (H.triple (w3.heap.size) (.int .i64 0) (.int .i64 0) (.int .i64 0) 23 rfl)
    (with_reducible refine (rmay_is y m d true _ HM.out).mono ?_)
    rintro e w4 ⟨rfl, hb⟩
    replace H := H.below hb
    clear hb
    go_wp2_with fail
    (with_reducible refine (of_any N y m d 0 _ (H.lens (List.Mem.tail _ (List.Mem.tail _ (List.Mem.tail _ (List.Mem.tail _ (List.Mem.tail _ (List.Mem.tail _ (List.Mem.tail _ (List.Mem.tail _ (List.Mem.tail _ (List.Mem.tail _ (List.Mem.tail _ (List.Mem.tail _ (List.Mem.head _)))))))))))))) OB.out).mono ?_)
    rintro e w5 ⟨rfl, hb⟩
    replace H := H.below hb
    clear hb
    have cc0 := H.cell (w.heap.size) 0 (.int .i64 y) (List.Mem.tail _ (List.Mem.tail _ (List.Mem.tail _ (List.Mem.tail _ (List.Mem.tail _ (List.Mem.tail _ (List.Mem.head _)))))))
    have cc1 := H.cell (w.heap.size) 1 (.int .i64 m) (List.Mem.tail _ (List.Mem.tail _ (List.Mem.tail _ (List.Mem.tail _ (List.Mem.tail _ (List.Mem.tail _ (List.Mem.tail _ (List.Mem.head _))))))))
    have cc2 := H.cell (w.heap.size) 2 (.int .i64 d) (List.Mem.tail _ (List.Mem.tail _ (List.Mem.tail _ (List.Mem.tail _ (List.Mem.tail _ (List.Mem.tail _ (List.Mem.tail _ (List.Mem.tail _ (List.Mem.head _)))))))))
    have lc := H.lt (w.heap.size) 0 (.int .i64 y) (List.Mem.tail _ (List.Mem.tail _ (List.Mem.tail _ (List.Mem.tail _ (List.Mem.tail _ (List.Mem.tail _ (List.Mem.head _)))))))
    have HK := H.old
    clear H
    go_wp2
    go_ret
    exact ⟨rfl, HK.alloc HK.size _⟩
  · have hn2 : 3652059 < n := by omega
    clear h2
    go_enter Tryd.func4, Tryd.ntmps4
    go_wp2_with fail
    replace H := (H.triple (w.heap.size) (.int .i64 y) (.int .i64 m) (.int .i64 d) 23 rfl)
    (with_reducible refine (cshown_any _ (H.lens (List.Mem.tail _ (List.Mem.tail _ (List.Mem.tail _ (List.Mem.tail _ (List.Mem.tail _ (List.Mem.tail _ (List.Mem.head _))))))))).mono ?_)
    rintro e w1 ⟨rfl, hb⟩
    replace H := H.below hb
    clear hb
    have cc0 := H.cell (w.heap.size) 0 (.int .i64 y) (List.Mem.head _)
    have cc1 := H.cell (w.heap.size) 1 (.int .i64 m) (List.Mem.tail _ (List.Mem.head _))
    have cc2 := H.cell (w.heap.size) 2 (.int .i64 d) (List.Mem.tail _ (List.Mem.tail _ (List.Mem.head _)))
    have lc := H.lt (w.heap.size) 0 (.int .i64 y) (List.Mem.head _)
    go_wp2_with fail
    clear cc0 cc1 cc2 lc
    (with_reducible refine (number_is y m d N 0 _ (H.lens (List.Mem.tail _ (List.Mem.tail _ (List.Mem.tail _ (List.Mem.tail _ (List.Mem.tail _ (List.Mem.tail _ (List.Mem.head _)))))))) HN.out).mono ?_)
    rintro e w2 ⟨rfl, hb⟩
    replace H := H.below hb
    clear hb
    go_wp2_with fail
    (with_reducible refine (of_any n 0 0 0 3 _ (H.lens (List.Mem.tail _ (List.Mem.tail _ (List.Mem.tail _ (List.Mem.tail _ (List.Mem.tail _ (List.Mem.tail _ (List.Mem.head _)))))))) HD.out).mono ?_)
    rintro e w3 ⟨rfl, hb⟩
    replace H := H.below hb
    clear hb
    have cc0 := H.cell (w.heap.size) 0 (.int .i64 y) (List.Mem.head _)
    have cc1 := H.cell (w.heap.size) 1 (.int .i64 m) (List.Mem.tail _ (List.Mem.head _))
    have cc2 := H.cell (w.heap.size) 2 (.int .i64 d) (List.Mem.tail _ (List.Mem.tail _ (List.Mem.head _)))
    have lc := H.lt (w.heap.size) 0 (.int .i64 y) (List.Mem.head _)
    go_wp2_with fail
    clear cc0 cc1 cc2 lc
    replace H := (H.triple (w3.heap.size) (.int .i64 0) (.int .i64 0) (.int .i64 0) 23 rfl)
    (with_reducible refine (rmay_is y m d true _ HM.out).mono ?_)
    rintro e w4 ⟨rfl, hb⟩
    replace H := H.below hb
    clear hb
    go_wp2_with fail
    (with_reducible refine (of_any N y m d 0 _ (H.lens (List.Mem.tail _ (List.Mem.tail _ (List.Mem.tail _ (List.Mem.tail _ (List.Mem.tail _ (List.Mem.tail _ (List.Mem.tail _ (List.Mem.tail _ (List.Mem.tail _ (List.Mem.tail _ (List.Mem.tail _ (List.Mem.tail _ (List.Mem.head _)))))))))))))) OB.out).mono ?_)
    rintro e w5 ⟨rfl, hb⟩
    replace H := H.below hb
    clear hb
    have cc0 := H.cell (w.heap.size) 0 (.int .i64 y) (List.Mem.tail _ (List.Mem.tail _ (List.Mem.tail _ (List.Mem.tail _ (List.Mem.tail _ (List.Mem.tail _ (List.Mem.head _)))))))
    have cc1 := H.cell (w.heap.size) 1 (.int .i64 m) (List.Mem.tail _ (List.Mem.tail _ (List.Mem.tail _ (List.Mem.tail _ (List.Mem.tail _ (List.Mem.tail _ (List.Mem.tail _ (List.Mem.head _))))))))
    have cc2 := H.cell (w.heap.size) 2 (.int .i64 d) (List.Mem.tail _ (List.Mem.tail _ (List.Mem.tail _ (List.Mem.tail _ (List.Mem.tail _ (List.Mem.tail _ (List.Mem.tail _ (List.Mem.tail _ (List.Mem.head _)))))))))
    have lc := H.lt (w.heap.size) 0 (.int .i64 y) (List.Mem.tail _ (List.Mem.tail _ (List.Mem.tail _ (List.Mem.tail _ (List.Mem.tail _ (List.Mem.tail _ (List.Mem.head _)))))))
    have HK := H.old
    clear H
    go_wp2
    go_ret
    exact ⟨rfl, HK.alloc HK.size _⟩

set_option maxHeartbeats 4000000 in
set_option maxRecDepth 100000 in
theorem cback_11 (y m d n N Y M D : Int) (w : World) (hL : Lens w) (h1 : may y m d) (hN : nb y m d = N) (h2 : may Y M D) (hn : nb Y M D = n) :
    Calls Tryd.prog 4 #[.agg #[.int .i64 y, .int .i64 m, .int .i64 d], .int .i64 n] w fun e w' => e = .returned (.bool true) ∧ Below w.heap.size w w' := by
  have H := (Held.start w).add (f := lensF) hL
  clear hL
  have HN : Hid (nN y m d = N ∧ nE y m d = 0) := Lib.hid (by rw [← hN]; exact n_yes h1)
  have HM := Lib.hid ((mb_iff y m d).2 h1)
  have OB : Hid (DayIs N y m d 0) := Lib.hid (Or.inl ⟨h1, hN, rfl⟩)
  clear h1 hN
  have bd := nb_bd Y M D h2
  rw [hn] at bd
  obtain ⟨bd1, bd2⟩ := bd
  have HD : Hid (DayIs n Y M D 0) := Lib.hid (Or.inl ⟨h2, hn, rfl⟩)
  have HO : Hid (nN Y M D = n ∧ nE Y M D = 0) := Lib.hid (by rw [← hn]; exact n_yes h2)
  have HP := Lib.hid ((mb_iff Y M D).2 h2)
  clear h2 hn
  go_enter Tryd.func4, Tryd.ntmps4
  go_wp2_with fail
  replace H := (H.triple (w.heap.size) (.int .i64 y) (.int .i64 m) (.int .i64 d) 23 rfl)
  (with_reducible refine (cshown_any _ (H.lens (List.Mem.tail _ (List.Mem.tail _ (List.Mem.tail _ (List.Mem.tail _ (List.Mem.tail _ (List.Mem.tail _ (List.Mem.head _))))))))).mono ?_)
  rintro e w1 ⟨rfl, hb⟩
  replace H := H.below hb
  clear hb
  have cc0 := H.cell (w.heap.size) 0 (.int .i64 y) (List.Mem.head _)
  have cc1 := H.cell (w.heap.size) 1 (.int .i64 m) (List.Mem.tail _ (List.Mem.head _))
  have cc2 := H.cell (w.heap.size) 2 (.int .i64 d) (List.Mem.tail _ (List.Mem.tail _ (List.Mem.head _)))
  have lc := H.lt (w.heap.size) 0 (.int .i64 y) (List.Mem.head _)
  go_wp2_with fail
  clear cc0 cc1 cc2 lc
  (with_reducible refine (number_is y m d N 0 _ (H.lens (List.Mem.tail _ (List.Mem.tail _ (List.Mem.tail _ (List.Mem.tail _ (List.Mem.tail _ (List.Mem.tail _ (List.Mem.head _)))))))) HN.out).mono ?_)
  rintro e w2 ⟨rfl, hb⟩
  replace H := H.below hb
  clear hb
  go_wp2_with fail
  (with_reducible refine (of_any n Y M D 0 _ (H.lens (List.Mem.tail _ (List.Mem.tail _ (List.Mem.tail _ (List.Mem.tail _ (List.Mem.tail _ (List.Mem.tail _ (List.Mem.head _)))))))) HD.out).mono ?_)
  rintro e w3 ⟨rfl, hb⟩
  replace H := H.below hb
  clear hb
  have cc0 := H.cell (w.heap.size) 0 (.int .i64 y) (List.Mem.head _)
  have cc1 := H.cell (w.heap.size) 1 (.int .i64 m) (List.Mem.tail _ (List.Mem.head _))
  have cc2 := H.cell (w.heap.size) 2 (.int .i64 d) (List.Mem.tail _ (List.Mem.tail _ (List.Mem.head _)))
  have lc := H.lt (w.heap.size) 0 (.int .i64 y) (List.Mem.head _)
  go_wp2_with fail
  clear cc0 cc1 cc2 lc
  replace H := (H.triple (w3.heap.size) (.int .i64 Y) (.int .i64 M) (.int .i64 D) 23 rfl)
  (with_reducible refine (rmay_is y m d true _ HM.out).mono ?_)
  rintro e w4 ⟨rfl, hb⟩
  replace H := H.below hb
  clear hb
  go_wp2_with fail
  (with_reducible refine (of_any N y m d 0 _ (H.lens (List.Mem.tail _ (List.Mem.tail _ (List.Mem.tail _ (List.Mem.tail _ (List.Mem.tail _ (List.Mem.tail _ (List.Mem.tail _ (List.Mem.tail _ (List.Mem.tail _ (List.Mem.tail _ (List.Mem.tail _ (List.Mem.tail _ (List.Mem.head _)))))))))))))) OB.out).mono ?_)
  rintro e w5 ⟨rfl, hb⟩
  replace H := H.below hb
  clear hb
  have cc0 := H.cell (w.heap.size) 0 (.int .i64 y) (List.Mem.tail _ (List.Mem.tail _ (List.Mem.tail _ (List.Mem.tail _ (List.Mem.tail _ (List.Mem.tail _ (List.Mem.head _)))))))
  have cc1 := H.cell (w.heap.size) 1 (.int .i64 m) (List.Mem.tail _ (List.Mem.tail _ (List.Mem.tail _ (List.Mem.tail _ (List.Mem.tail _ (List.Mem.tail _ (List.Mem.tail _ (List.Mem.head _))))))))
  have cc2 := H.cell (w.heap.size) 2 (.int .i64 d) (List.Mem.tail _ (List.Mem.tail _ (List.Mem.tail _ (List.Mem.tail _ (List.Mem.tail _ (List.Mem.tail _ (List.Mem.tail _ (List.Mem.tail _ (List.Mem.head _)))))))))
  have lc := H.lt (w.heap.size) 0 (.int .i64 y) (List.Mem.tail _ (List.Mem.tail _ (List.Mem.tail _ (List.Mem.tail _ (List.Mem.tail _ (List.Mem.tail _ (List.Mem.head _)))))))
  have ca0 := H.cell (w3.heap.size) 0 (.int .i64 Y) (List.Mem.head _)
  have ca1 := H.cell (w3.heap.size) 1 (.int .i64 M) (List.Mem.tail _ (List.Mem.head _))
  have ca2 := H.cell (w3.heap.size) 2 (.int .i64 D) (List.Mem.tail _ (List.Mem.tail _ (List.Mem.head _)))
  have la := H.lt (w3.heap.size) 0 (.int .i64 Y) (List.Mem.head _)
  go_wp2_with fail
  clear cc0 cc1 cc2 lc ca0 ca1 ca2 la
  replace H := (H.triple (w5.heap.size) (.int .i64 y) (.int .i64 m) (.int .i64 d) 23 rfl)
  (with_reducible refine (number_is Y M D n 0 _ (H.lens (List.Mem.tail _ (List.Mem.tail _ (List.Mem.tail _ (List.Mem.tail _ (List.Mem.tail _ (List.Mem.tail _ (List.Mem.tail _ (List.Mem.tail _ (List.Mem.tail _ (List.Mem.tail _ (List.Mem.tail _ (List.Mem.tail _ (List.Mem.tail _ (List.Mem.tail _ (List.Mem.tail _ (List.Mem.tail _ (List.Mem.tail _ (List.Mem.tail _ (List.Mem.head _)))))))))))))))))))) HO.out).mono ?_)
  rintro e w6 ⟨rfl, hb⟩
  replace H := H.below hb
  clear hb
  have ca0 := H.cell (w3.heap.size) 0 (.int .i64 Y) (List.Mem.tail _ (List.Mem.tail _ (List.Mem.tail _ (List.Mem.tail _ (List.Mem.tail _ (List.Mem.tail _ (List.Mem.head _)))))))
  have ca1 := H.cell (w3.heap.size) 1 (.int .i64 M) (List.Mem.tail _ (List.Mem.tail _ (List.Mem.tail _ (List.Mem.tail _ (List.Mem.tail _ (List.Mem.tail _ (List.Mem.tail _ (List.Mem.head _))))))))
  have ca2 := H.cell (w3.heap.size) 2 (.int .i64 D) (List.Mem.tail _ (List.Mem.tail _ (List.Mem.tail _ (List.Mem.tail _ (List.Mem.tail _ (List.Mem.tail _ (List.Mem.tail _ (List.Mem.tail _ (List.Mem.head _)))))))))
  have la := H.lt (w3.heap.size) 0 (.int .i64 Y) (List.Mem.tail _ (List.Mem.tail _ (List.Mem.tail _ (List.Mem.tail _ (List.Mem.tail _ (List.Mem.tail _ (List.Mem.head _)))))))
  go_wp2_with fail
  clear ca0 ca1 ca2 la
  (with_reducible refine (rmay_is Y M D true _ HP.out).mono ?_)
  rintro e w7 ⟨rfl, hb⟩
  replace H := H.below hb
  clear hb
  go_wp2
  go_ret
  exact ⟨rfl, H.old⟩

theorem cback_walk (y m d n : Int) (w : World) (hL : Lens w) (hy : -9223372036854775808 ≤ y ∧ y < 9223372036854775808) (hm : -9223372036854775808 ≤ m ∧ m < 9223372036854775808) (hd : -9223372036854775808 ≤ d ∧ d < 9223372036854775808) (hn : -9223372036854775808 ≤ n ∧ n < 9223372036854775808) :
    Calls Tryd.prog 4 #[.agg #[.int .i64 y, .int .i64 m, .int .i64 d], .int .i64 n] w fun e w' => e = .returned (.bool true) ∧ Below w.heap.size w w' := by
  by_cases h1 : may y m d
  · by_cases h2 : n < 1 ∨ 3652059 < n
    · exact cback_10 y m d n _ w hL h1 rfl h2
    · obtain ⟨Y, M, D, a, b⟩ := day_of n (by omega) (by omega)
      exact cback_11 y m d n _ Y M D w hL h1 rfl a b
  · by_cases h2 : n < 1 ∨ 3652059 < n
    · exact cback_00 y m d n w hL h1 h2
    · obtain ⟨Y, M, D, a, b⟩ := day_of n (by omega) (by omega)
      exact cback_01 y m d n Y M D w hL h1 a b
end Go.Proofs.YthnondaheppkiaaDoor
