/- CivilOrder: the walk. -/
import Derived.Test.YthnondaheppkiaaDoorCShown
namespace Go.Proofs.YthnondaheppkiaaDoor
open Go.RowKit
set_option linter.unusedVariables false
set_option linter.unusedSimpArgs false

theorem nb_lt_iff (y m d Y M D : Int) (h : may y m d) (h' : may Y M D) : nb y m d < nb Y M D ↔ (y < Y ∨ y = Y ∧ (m < M ∨ m = M ∧ d < D)) := by
  constructor
  · intro hl
    by_cases a : y < Y ∨ y = Y ∧ (m < M ∨ m = M ∧ d < D)
    · exact a
    · by_cases b : Y < y ∨ Y = y ∧ (M < m ∨ M = m ∧ D < d)
      · have := nb_lt Y M D y m d h' h b; omega
      · have e : y = Y ∧ m = M ∧ d = D := by omega
        obtain ⟨rfl, rfl, rfl⟩ := e
        omega
  · exact nb_lt y m d Y M D h h'
theorem nb_eq_iff (y m d Y M D : Int) (h : may y m d) (h' : may Y M D) : nb y m d = nb Y M D ↔ (y = Y ∧ m = M ∧ d = D) :=
  ⟨nb_inj y m d Y M D h h', fun e => by obtain ⟨rfl, rfl, rfl⟩ := e; rfl⟩

set_option maxHeartbeats 4000000 in
set_option maxRecDepth 100000 in
theorem corder_1 (y m d Y M D : Int) (w : World) (hL : Lens w) (h1 : mb y m d = false) :
    Calls Tryd.prog 6 #[.agg #[.int .i64 y, .int .i64 m, .int .i64 d], .agg #[.int .i64 Y, .int .i64 M, .int .i64 D]] w fun e w' => e = .returned (.bool true) ∧ Below w.heap.size w w' := by
  have H := (Held.start w).add (f := lensF) hL
  clear hL
  have H1 := Lib.hid h1
  clear h1
  go_enter Tryd.func6, Tryd.ntmps6
  go_wp2_with fail
  replace H := ((H.triple (w.heap.size) (.int .i64 y) (.int .i64 m) (.int .i64 d) 23 rfl).triple (w.heap.size + 1) (.int .i64 Y) (.int .i64 M) (.int .i64 D) 23 (by simp))
  (with_reducible refine (cshown_any _ (H.lens (List.Mem.tail _ (List.Mem.tail _ (List.Mem.tail _ (List.Mem.tail _ (List.Mem.tail _ (List.Mem.tail _ (List.Mem.tail _ (List.Mem.tail _ (List.Mem.tail _ (List.Mem.tail _ (List.Mem.tail _ (List.Mem.tail _ (List.Mem.head _))))))))))))))).mono ?_)
  rintro e w1 ⟨rfl, hb⟩
  replace H := H.below hb
  clear hb
  have ca0 := H.cell (w.heap.size) 0 (.int .i64 y) (List.Mem.tail _ (List.Mem.tail _ (List.Mem.tail _ (List.Mem.tail _ (List.Mem.tail _ (List.Mem.tail _ (List.Mem.head _)))))))
  have ca1 := H.cell (w.heap.size) 1 (.int .i64 m) (List.Mem.tail _ (List.Mem.tail _ (List.Mem.tail _ (List.Mem.tail _ (List.Mem.tail _ (List.Mem.tail _ (List.Mem.tail _ (List.Mem.head _))))))))
  have ca2 := H.cell (w.heap.size) 2 (.int .i64 d) (List.Mem.tail _ (List.Mem.tail _ (List.Mem.tail _ (List.Mem.tail _ (List.Mem.tail _ (List.Mem.tail _ (List.Mem.tail _ (List.Mem.tail _ (List.Mem.head _)))))))))
  have la := H.lt (w.heap.size) 0 (.int .i64 y) (List.Mem.tail _ (List.Mem.tail _ (List.Mem.tail _ (List.Mem.tail _ (List.Mem.tail _ (List.Mem.tail _ (List.Mem.head _)))))))
  go_wp2_with fail
  clear ca0 ca1 ca2 la
  (with_reducible refine (rmay_is y m d false _ H1.out).mono ?_)
  rintro e w2 ⟨rfl, hb⟩
  replace H := H.below hb
  clear hb
  go_wp2_with fail
  go_ret
  exact ⟨rfl, H.old⟩

set_option maxHeartbeats 4000000 in
set_option maxRecDepth 100000 in
theorem corder_2 (y m d Y M D : Int) (w : World) (hL : Lens w) (h1 : mb y m d = true) (h2 : mb Y M D = false) :
    Calls Tryd.prog 6 #[.agg #[.int .i64 y, .int .i64 m, .int .i64 d], .agg #[.int .i64 Y, .int .i64 M, .int .i64 D]] w fun e w' => e = .returned (.bool true) ∧ Below w.heap.size w w' := by
  have H := (Held.start w).add (f := lensF) hL
  clear hL
  have H1 := Lib.hid h1
  have H2 := Lib.hid h2
  clear h1 h2
  go_enter Tryd.func6, Tryd.ntmps6
  go_wp2_with fail
  replace H := ((H.triple (w.heap.size) (.int .i64 y) (.int .i64 m) (.int .i64 d) 23 rfl).triple (w.heap.size + 1) (.int .i64 Y) (.int .i64 M) (.int .i64 D) 23 (by simp))
  (with_reducible refine (cshown_any _ (H.lens (List.Mem.tail _ (List.Mem.tail _ (List.Mem.tail _ (List.Mem.tail _ (List.Mem.tail _ (List.Mem.tail _ (List.Mem.tail _ (List.Mem.tail _ (List.Mem.tail _ (List.Mem.tail _ (List.Mem.tail _ (List.Mem.tail _ (List.Mem.head _))))))))))))))).mono ?_)
  rintro e w1 ⟨rfl, hb⟩
  replace H := H.below hb
  clear hb
  have ca0 := H.cell (w.heap.size) 0 (.int .i64 y) (List.Mem.tail _ (List.Mem.tail _ (List.Mem.tail _ (List.Mem.tail _ (List.Mem.tail _ (List.Mem.tail _ (List.Mem.head _)))))))
  have ca1 := H.cell (w.heap.size) 1 (.int .i64 m) (List.Mem.tail _ (List.Mem.tail _ (List.Mem.tail _ (List.Mem.tail _ (List.Mem.tail _ (List.Mem.tail _ (List.Mem.tail _ (List.Mem.head _))))))))
  have ca2 := H.cell (w.heap.size) 2 (.int .i64 d) (List.Mem.tail _ (List.Mem.tail _ (List.Mem.tail _ (List.Mem.tail _ (List.Mem.tail _ (List.Mem.tail _ (List.Mem.tail _ (List.Mem.tail _ (List.Mem.head _)))))))))
  have la := H.lt (w.heap.size) 0 (.int .i64 y) (List.Mem.tail _ (List.Mem.tail _ (List.Mem.tail _ (List.Mem.tail _ (List.Mem.tail _ (List.Mem.tail _ (List.Mem.head _)))))))
  go_wp2_with fail
  clear ca0 ca1 ca2 la
  (with_reducible refine (rmay_is y m d true _ H1.out).mono ?_)
  rintro e w2 ⟨rfl, hb⟩
  replace H := H.below hb
  clear hb
  have cb0 := H.cell (w.heap.size + 1) 0 (.int .i64 Y) (List.Mem.head _)
  have cb1 := H.cell (w.heap.size + 1) 1 (.int .i64 M) (List.Mem.tail _ (List.Mem.head _))
  have cb2 := H.cell (w.heap.size + 1) 2 (.int .i64 D) (List.Mem.tail _ (List.Mem.tail _ (List.Mem.head _)))
  have lb := H.lt (w.heap.size + 1) 0 (.int .i64 Y) (List.Mem.head _)
  go_wp2_with fail
  clear cb0 cb1 cb2 lb
  (with_reducible refine (rmay_is Y M D false _ H2.out).mono ?_)
  rintro e w3 ⟨rfl, hb⟩
  replace H := H.below hb
  clear hb
  go_wp2_with fail
  go_ret
  exact ⟨rfl, H.old⟩

set_option maxHeartbeats 4000000 in
set_option maxRecDepth 100000 in
theorem corder_3 (y m d Y M D : Int) (w : World) (hL : Lens w) (h1 : may y m d) (h2 : may Y M D) :
    Calls Tryd.prog 6 #[.agg #[.int .i64 y, .int .i64 m, .int .i64 d], .agg #[.int .i64 Y, .int .i64 M, .int .i64 D]] w fun e w' => e = .returned (.bool true) ∧ Below w.heap.size w w' := by
  have H := (Held.start w).add (f := lensF) hL
  clear hL
  have H1 := Lib.hid ((mb_iff y m d).2 h1)
  have H2 := Lib.hid ((mb_iff Y M D).2 h2)
  have HN := Lib.hid (n_yes h1)
  have HO := Lib.hid (n_yes h2)
  have f1 := nb_lt_iff y m d Y M D h1 h2
  have f2 := nb_eq_iff y m d Y M D h1 h2
  clear h1 h2
  obtain ⟨N, HA⟩ : ∃ k, nb y m d = k := ⟨_, rfl⟩
  obtain ⟨O, HB⟩ : ∃ k, nb Y M D = k := ⟨_, rfl⟩
  rw [HA] at HN f1 f2
  rw [HB] at HO f1 f2
  clear HA HB
  have F1 := Lib.hid f1
  have F2 := Lib.hid f2
  clear f1 f2
  go_enter Tryd.func6, Tryd.ntmps6
  go_wp2_with fail
  replace H := ((H.triple (w.heap.size) (.int .i64 y) (.int .i64 m) (.int .i64 d) 23 rfl).triple (w.heap.size + 1) (.int .i64 Y) (.int .i64 M) (.int .i64 D) 23 (by simp))
  (with_reducible refine (cshown_any _ (H.lens (List.Mem.tail _ (List.Mem.tail _ (List.Mem.tail _ (List.Mem.tail _ (List.Mem.tail _ (List.Mem.tail _ (List.Mem.tail _ (List.Mem.tail _ (List.Mem.tail _ (List.Mem.tail _ (List.Mem.tail _ (List.Mem.tail _ (List.Mem.head _))))))))))))))).mono ?_)
  rintro e w1 ⟨rfl, hb⟩
  replace H := H.below hb
  clear hb
  have ca0 := H.cell (w.heap.size) 0 (.int .i64 y) (List.Mem.tail _ (List.Mem.tail _ (List.Mem.tail _ (List.Mem.tail _ (List.Mem.tail _ (List.Mem.tail _ (List.Mem.head _)))))))
  have ca1 := H.cell (w.heap.size) 1 (.int .i64 m) (List.Mem.tail _ (List.Mem.tail _ (List.Mem.tail _ (List.Mem.tail _ (List.Mem.tail _ (List.Mem.tail _ (List.Mem.tail _ (List.Mem.head _))))))))
  have ca2 := H.cell (w.heap.size) 2 (.int .i64 d) (List.Mem.tail _ (List.Mem.tail _ (List.Mem.tail _ (List.Mem.tail _ (List.Mem.tail _ (List.Mem.tail _ (List.Mem.tail _ (List.Mem.tail _ (List.Mem.head _)))))))))
  have la := H.lt (w.heap.size) 0 (.int .i64 y) (List.Mem.tail _ (List.Mem.tail _ (List.Mem.tail _ (List.Mem.tail _ (List.Mem.tail _ (List.Mem.tail _ (List.Mem.head _)))))))
  go_wp2_with fail
  clear ca0 ca1 ca2 la
  (with_reducible refine (rmay_is y m d true _ H1.out).mono ?_)
  rintro e w2 ⟨rfl, hb⟩
  replace H := H.below hb
  clear hb
  have cb0 := H.cell (w.heap.size + 1) 0 (.int .i64 Y) (List.Mem.head _)
  have cb1 := H.cell (w.heap.size + 1) 1 (.int .i64 M) (List.Mem.tail _ (List.Mem.head _))
  have cb2 := H.cell (w.heap.size + 1) 2 (.int .i64 D) (List.Mem.tail _ (List.Mem.tail _ (List.Mem.head _)))
  have lb := H.lt (w.heap.size + 1) 0 (.int .i64 Y) (List.Mem.head _)
  go_wp2_with fail
  clear cb0 cb1 cb2 lb
  (with_reducible refine (rmay_is Y M D true _ H2.out).mono ?_)
  rintro e w3 ⟨rfl, hb⟩
  replace H := H.below hb
  clear hb
  have ca0 := H.cell (w.heap.size) 0 (.int .i64 y) (List.Mem.tail _ (List.Mem.tail _ (List.Mem.tail _ (List.Mem.tail _ (List.Mem.tail _ (List.Mem.tail _ (List.Mem.head _)))))))
  have ca1 := H.cell (w.heap.size) 1 (.int .i64 m) (List.Mem.tail _ (List.Mem.tail _ (List.Mem.tail _ (List.Mem.tail _ (List.Mem.tail _ (List.Mem.tail _ (List.Mem.tail _ (List.Mem.head _))))))))
  have ca2 := H.cell (w.heap.size) 2 (.int .i64 d) (List.Mem.tail _ (List.Mem.tail _ (List.Mem.tail _ (List.Mem.tail _ (List.Mem.tail _ (List.Mem.tail _ (List.Mem.tail _ (List.Mem.tail _ (List.Mem.head _)))))))))
  have la := H.lt (w.heap.size) 0 (.int .i64 y) (List.Mem.tail _ (List.Mem.tail _ (List.Mem.tail _ (List.Mem.tail _ (List.Mem.tail _ (List.Mem.tail _ (List.Mem.head _)))))))
  go_wp2_with fail
  clear ca0 ca1 ca2 la
  (with_reducible refine (number_is y m d N 0 _ (H.lens (List.Mem.tail _ (List.Mem.tail _ (List.Mem.tail _ (List.Mem.tail _ (List.Mem.tail _ (List.Mem.tail _ (List.Mem.tail _ (List.Mem.tail _ (List.Mem.tail _ (List.Mem.tail _ (List.Mem.tail _ (List.Mem.tail _ (List.Mem.head _)))))))))))))) HN.out).mono ?_)
  rintro e w4 ⟨rfl, hb⟩
  replace H := H.below hb
  clear hb
  have cb0 := H.cell (w.heap.size + 1) 0 (.int .i64 Y) (List.Mem.head _)
  have cb1 := H.cell (w.heap.size + 1) 1 (.int .i64 M) (List.Mem.tail _ (List.Mem.head _))
  have cb2 := H.cell (w.heap.size + 1) 2 (.int .i64 D) (List.Mem.tail _ (List.Mem.tail _ (List.Mem.head _)))
  have lb := H.lt (w.heap.size + 1) 0 (.int .i64 Y) (List.Mem.head _)
  go_wp2_with fail
  clear cb0 cb1 cb2 lb
  (with_reducible refine (number_is Y M D O 0 _ (H.lens (List.Mem.tail _ (List.Mem.tail _ (List.Mem.tail _ (List.Mem.tail _ (List.Mem.tail _ (List.Mem.tail _ (List.Mem.tail _ (List.Mem.tail _ (List.Mem.tail _ (List.Mem.tail _ (List.Mem.tail _ (List.Mem.tail _ (List.Mem.head _)))))))))))))) HO.out).mono ?_)
  rintro e w5 ⟨rfl, hb⟩
  replace H := H.below hb
  clear hb
  have ca0 := H.cell (w.heap.size) 0 (.int .i64 y) (List.Mem.tail _ (List.Mem.tail _ (List.Mem.tail _ (List.Mem.tail _ (List.Mem.tail _ (List.Mem.tail _ (List.Mem.head _)))))))
  have ca1 := H.cell (w.heap.size) 1 (.int .i64 m) (List.Mem.tail _ (List.Mem.tail _ (List.Mem.tail _ (List.Mem.tail _ (List.Mem.tail _ (List.Mem.tail _ (List.Mem.tail _ (List.Mem.head _))))))))
  have ca2 := H.cell (w.heap.size) 2 (.int .i64 d) (List.Mem.tail _ (List.Mem.tail _ (List.Mem.tail _ (List.Mem.tail _ (List.Mem.tail _ (List.Mem.tail _ (List.Mem.tail _ (List.Mem.tail _ (List.Mem.head _)))))))))
  have la := H.lt (w.heap.size) 0 (.int .i64 y) (List.Mem.tail _ (List.Mem.tail _ (List.Mem.tail _ (List.Mem.tail _ (List.Mem.tail _ (List.Mem.tail _ (List.Mem.head _)))))))
  have cb0 := H.cell (w.heap.size + 1) 0 (.int .i64 Y) (List.Mem.head _)
  have cb1 := H.cell (w.heap.size + 1) 1 (.int .i64 M) (List.Mem.tail _ (List.Mem.head _))
  have cb2 := H.cell (w.heap.size + 1) 2 (.int .i64 D) (List.Mem.tail _ (List.Mem.tail _ (List.Mem.head _)))
  have lb := H.lt (w.heap.size + 1) 0 (.int .i64 Y) (List.Mem.head _)
  have HK := H.old
  clear H
  go_wp2
  all_goals
    go_ret
    refine ⟨retB ?_, HK⟩
    have f1 := F1.out
    have f2 := F2.out
  all_goals (first | (exfalso; omega) | (simp only [beq_iff_eq, Bool.not_eq_true', beq_eq_false_iff_ne, ne_eq]; omega))

theorem corder_walk (y m d Y M D : Int) (w : World) (hL : Lens w) (hy : -9223372036854775808 ≤ y ∧ y < 9223372036854775808) (hm : -9223372036854775808 ≤ m ∧ m < 9223372036854775808) (hd : -9223372036854775808 ≤ d ∧ d < 9223372036854775808) (hY : -9223372036854775808 ≤ Y ∧ Y < 9223372036854775808) (hM : -9223372036854775808 ≤ M ∧ M < 9223372036854775808) (hD : -9223372036854775808 ≤ D ∧ D < 9223372036854775808) :
    Calls Tryd.prog 6 #[.agg #[.int .i64 y, .int .i64 m, .int .i64 d], .agg #[.int .i64 Y, .int .i64 M, .int .i64 D]] w fun e w' => e = .returned (.bool true) ∧ Below w.heap.size w w' := by
  by_cases h1 : may y m d
  · by_cases h2 : may Y M D
    · exact corder_3 y m d Y M D w hL h1 h2
    · exact corder_2 y m d Y M D w hL ((mb_iff y m d).2 h1) ((mb_not Y M D).2 h2)
  · exact corder_1 y m d Y M D w hL ((mb_not y m d).2 h1)
end Go.Proofs.YthnondaheppkiaaDoor
