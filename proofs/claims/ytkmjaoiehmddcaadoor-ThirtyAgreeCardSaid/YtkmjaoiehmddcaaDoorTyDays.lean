/- Package thirty: the day of a number; two days, the second one not ahead of the first one. -/
import Derived.Test.YtkmjaoiehmddcaaDoorTyTell
import Derived.Test.YtkmjaoiehmddcaaDoorMoMonths
namespace Go.Proofs.YtkmjaoiehmddcaaDoor
open Go.RowKit
set_option linter.unusedVariables false
set_option linter.unusedSimpArgs false


set_option maxHeartbeats 10000000 in
set_option maxRecDepth 100000 in
theorem read7_in (n y m d : Int) (l : Bool) (w : World) (hL : Lens w) (h : may y m d) (hn : nb y m d = n) (hl : decide (d = ln y m) = l) :
    Calls Tryd.prog 46 #[.int .i64 n] w fun e' w' => e' = .returned (.tuple #[.agg #[.int .i64 m, .int .i64 d, .bool l, .int .i64 y], .int .i64 0]) ∧ Below w.heap.size w w' := by
  have H := (Held.start w).add (f := lensF) hL
  have O1 : Hid (DayIs n y m d 0) := Lib.hid (Or.inl ⟨h, hn, rfl⟩)
  have O2 : Hid (LastIs n l) := Lib.hid (last_in y m d h hn hl)
  clear hL h hn hl
  go_enter Tryd.func46, Tryd.ntmps46
  go_wp2_with fail
  replace H := (H.quad (w.heap.size) (.int .i64 0) (.int .i64 0) (.bool false) (.int .i64 0) 66 rfl)
  (with_reducible refine (civ_any n y m d 0 _ (H.lens (List.Mem.tail _ (List.Mem.tail _ (List.Mem.tail _ (List.Mem.tail _ (List.Mem.tail _ (List.Mem.tail _ (List.Mem.tail _ (List.Mem.tail _ (List.Mem.head _)))))))))) O1.out).mono ?_)
  rintro e w1 ⟨rfl, hb⟩
  replace H := H.below hb
  clear hb
  go_wp2_with fail
  replace H := (H.triple (w1.heap.size) (.int .i64 y) (.int .i64 m) (.int .i64 d) 41 rfl)
  have cc0 := H.cell (w1.heap.size) 0 (.int .i64 y) (List.Mem.head _)
  have cc1 := H.cell (w1.heap.size) 1 (.int .i64 m) (List.Mem.tail _ (List.Mem.head _))
  have cc2 := H.cell (w1.heap.size) 2 (.int .i64 d) (List.Mem.tail _ (List.Mem.tail _ (List.Mem.head _)))
  have lc := H.lt (w1.heap.size) 0 (.int .i64 y) (List.Mem.head _)
  have cz0 := H.cell (w.heap.size) 0 (.int .i64 0) (List.Mem.tail _ (List.Mem.tail _ (List.Mem.tail _ (List.Mem.tail _ (List.Mem.tail _ (List.Mem.tail _ (List.Mem.head _)))))))
  have cz1 := H.cell (w.heap.size) 1 (.int .i64 0) (List.Mem.tail _ (List.Mem.tail _ (List.Mem.tail _ (List.Mem.tail _ (List.Mem.tail _ (List.Mem.tail _ (List.Mem.tail _ (List.Mem.head _))))))))
  have cz2 := H.cell (w.heap.size) 2 (.bool false) (List.Mem.tail _ (List.Mem.tail _ (List.Mem.tail _ (List.Mem.tail _ (List.Mem.tail _ (List.Mem.tail _ (List.Mem.tail _ (List.Mem.tail _ (List.Mem.head _)))))))))
  have cz3 := H.cell (w.heap.size) 3 (.int .i64 0) (List.Mem.tail _ (List.Mem.tail _ (List.Mem.tail _ (List.Mem.tail _ (List.Mem.tail _ (List.Mem.tail _ (List.Mem.tail _ (List.Mem.tail _ (List.Mem.tail _ (List.Mem.head _))))))))))
  have lz := H.lt (w.heap.size) 0 (.int .i64 0) (List.Mem.tail _ (List.Mem.tail _ (List.Mem.tail _ (List.Mem.tail _ (List.Mem.tail _ (List.Mem.tail _ (List.Mem.head _)))))))
  have fz0 := H.frozen (w.heap.size) 0 (List.Mem.tail _ (List.Mem.tail _ (List.Mem.tail _ (List.Mem.tail _ (List.Mem.tail _ (List.Mem.tail _ (List.Mem.tail _ (List.Mem.tail _ (List.Mem.tail _ (List.Mem.tail _ (List.Mem.head _)))))))))))
  have fz1 := H.frozen (w.heap.size) 1 (List.Mem.tail _ (List.Mem.tail _ (List.Mem.tail _ (List.Mem.tail _ (List.Mem.tail _ (List.Mem.tail _ (List.Mem.tail _ (List.Mem.tail _ (List.Mem.tail _ (List.Mem.tail _ (List.Mem.tail _ (List.Mem.head _))))))))))))
  have fz2 := H.frozen (w.heap.size) 2 (List.Mem.tail _ (List.Mem.tail _ (List.Mem.tail _ (List.Mem.tail _ (List.Mem.tail _ (List.Mem.tail _ (List.Mem.tail _ (List.Mem.tail _ (List.Mem.tail _ (List.Mem.tail _ (List.Mem.tail _ (List.Mem.tail _ (List.Mem.head _)))))))))))))
  have fz3 := H.frozen (w.heap.size) 3 (List.Mem.tail _ (List.Mem.tail _ (List.Mem.tail _ (List.Mem.tail _ (List.Mem.tail _ (List.Mem.tail _ (List.Mem.tail _ (List.Mem.tail _ (List.Mem.tail _ (List.Mem.tail _ (List.Mem.tail _ (List.Mem.tail _ (List.Mem.tail _ (List.Mem.head _))))))))))))))
  replace H := H.drew
  go_region_with
    (first
      | (go_at_call 56; (with_reducible refine (last_any n l _ (H.lens (List.Mem.tail _ (List.Mem.tail _ (List.Mem.tail _ (List.Mem.tail _ (List.Mem.tail _ (List.Mem.tail _ (List.Mem.tail _ (List.Mem.tail _ (List.Mem.tail _ (List.Mem.tail _ (List.Mem.tail _ (List.Mem.tail _ (List.Mem.tail _ (List.Mem.tail _ (List.Mem.head _)))))))))))))))) O2.out).mono ?_); rintro e w' ⟨rfl, hb⟩; replace H := H.below hb; clear hb; replace cc0 := H.cell (w1.heap.size) 0 (.int .i64 y) (List.Mem.head _); replace cc1 := H.cell (w1.heap.size) 1 (.int .i64 m) (List.Mem.tail _ (List.Mem.head _)); replace cc2 := H.cell (w1.heap.size) 2 (.int .i64 d) (List.Mem.tail _ (List.Mem.tail _ (List.Mem.head _))); replace lc := H.lt (w1.heap.size) 0 (.int .i64 y) (List.Mem.head _); replace cz0 := H.cell (w.heap.size) 0 (.int .i64 0) (List.Mem.tail _ (List.Mem.tail _ (List.Mem.tail _ (List.Mem.tail _ (List.Mem.tail _ (List.Mem.tail _ (List.Mem.head _))))))); replace cz1 := H.cell (w.heap.size) 1 (.int .i64 0) (List.Mem.tail _ (List.Mem.tail _ (List.Mem.tail _ (List.Mem.tail _ (List.Mem.tail _ (List.Mem.tail _ (List.Mem.tail _ (List.Mem.head _)))))))); replace cz2 := H.cell (w.heap.size) 2 (.bool false) (List.Mem.tail _ (List.Mem.tail _ (List.Mem.tail _ (List.Mem.tail _ (List.Mem.tail _ (List.Mem.tail _ (List.Mem.tail _ (List.Mem.tail _ (List.Mem.head _))))))))); replace cz3 := H.cell (w.heap.size) 3 (.int .i64 0) (List.Mem.tail _ (List.Mem.tail _ (List.Mem.tail _ (List.Mem.tail _ (List.Mem.tail _ (List.Mem.tail _ (List.Mem.tail _ (List.Mem.tail _ (List.Mem.tail _ (List.Mem.head _)))))))))); replace lz := H.lt (w.heap.size) 0 (.int .i64 0) (List.Mem.tail _ (List.Mem.tail _ (List.Mem.tail _ (List.Mem.tail _ (List.Mem.tail _ (List.Mem.tail _ (List.Mem.head _))))))); replace fz0 := H.frozen (w.heap.size) 0 (List.Mem.tail _ (List.Mem.tail _ (List.Mem.tail _ (List.Mem.tail _ (List.Mem.tail _ (List.Mem.tail _ (List.Mem.tail _ (List.Mem.tail _ (List.Mem.tail _ (List.Mem.tail _ (List.Mem.head _))))))))))); replace fz1 := H.frozen (w.heap.size) 1 (List.Mem.tail _ (List.Mem.tail _ (List.Mem.tail _ (List.Mem.tail _ (List.Mem.tail _ (List.Mem.tail _ (List.Mem.tail _ (List.Mem.tail _ (List.Mem.tail _ (List.Mem.tail _ (List.Mem.tail _ (List.Mem.head _)))))))))))); replace fz2 := H.frozen (w.heap.size) 2 (List.Mem.tail _ (List.Mem.tail _ (List.Mem.tail _ (List.Mem.tail _ (List.Mem.tail _ (List.Mem.tail _ (List.Mem.tail _ (List.Mem.tail _ (List.Mem.tail _ (List.Mem.tail _ (List.Mem.tail _ (List.Mem.tail _ (List.Mem.head _))))))))))))); replace fz3 := H.frozen (w.heap.size) 3 (List.Mem.tail _ (List.Mem.tail _ (List.Mem.tail _ (List.Mem.tail _ (List.Mem.tail _ (List.Mem.tail _ (List.Mem.tail _ (List.Mem.tail _ (List.Mem.tail _ (List.Mem.tail _ (List.Mem.tail _ (List.Mem.tail _ (List.Mem.tail _ (List.Mem.head _))))))))))))))))
  all_goals
    go_wp2_with fail
    exact bodyPost_ret (v := .tuple #[.agg #[.int .i64 m, .int .i64 d, .bool l, .int .i64 y], .int .i64 0]) (by simp [results, Tryd.results46, go_sem, cz0, cz1, cz2, cz3]) rfl ⟨rfl, (((H.old.setCell (by simp <;> omega) _).setCell (by simp <;> omega) _).setCell (by simp <;> omega) _).setCell (by simp <;> omega) _⟩

set_option maxHeartbeats 1000000 in
set_option maxRecDepth 100000 in
theorem read7_out (n : Int) (w : World) (hL : Lens w) (h : n < 1 ∨ 3652059 < n) :
    Calls Tryd.prog 46 #[.int .i64 n] w fun e' w' => e' = .returned (.tuple #[.agg #[.int .i64 0, .int .i64 0, .bool false, .int .i64 0], .int .i64 3]) ∧ Below w.heap.size w w' := by
  have H := (Held.start w).add (f := lensF) hL
  have O1 : Hid (DayIs n 0 0 0 3) := Lib.hid (Or.inr ⟨h, rfl, rfl, rfl, rfl⟩)
  clear hL h
  go_enter Tryd.func46, Tryd.ntmps46
  go_wp2_with fail
  replace H := (H.quad (w.heap.size) (.int .i64 0) (.int .i64 0) (.bool false) (.int .i64 0) 66 rfl)
  (with_reducible refine (civ_any n 0 0 0 3 _ (H.lens (List.Mem.tail _ (List.Mem.tail _ (List.Mem.tail _ (List.Mem.tail _ (List.Mem.tail _ (List.Mem.tail _ (List.Mem.tail _ (List.Mem.tail _ (List.Mem.head _)))))))))) O1.out).mono ?_)
  rintro e w1 ⟨rfl, hb⟩
  replace H := H.below hb
  clear hb
  have cz0 := H.cell (w.heap.size) 0 (.int .i64 0) (List.Mem.head _)
  have cz1 := H.cell (w.heap.size) 1 (.int .i64 0) (List.Mem.tail _ (List.Mem.head _))
  have cz2 := H.cell (w.heap.size) 2 (.bool false) (List.Mem.tail _ (List.Mem.tail _ (List.Mem.head _)))
  have cz3 := H.cell (w.heap.size) 3 (.int .i64 0) (List.Mem.tail _ (List.Mem.tail _ (List.Mem.tail _ (List.Mem.head _))))
  have lz := H.lt (w.heap.size) 0 (.int .i64 0) (List.Mem.head _)
  have fz0 := H.frozen (w.heap.size) 0 (List.Mem.tail _ (List.Mem.tail _ (List.Mem.tail _ (List.Mem.tail _ (List.Mem.head _)))))
  have fz1 := H.frozen (w.heap.size) 1 (List.Mem.tail _ (List.Mem.tail _ (List.Mem.tail _ (List.Mem.tail _ (List.Mem.tail _ (List.Mem.head _))))))
  have fz2 := H.frozen (w.heap.size) 2 (List.Mem.tail _ (List.Mem.tail _ (List.Mem.tail _ (List.Mem.tail _ (List.Mem.tail _ (List.Mem.tail _ (List.Mem.head _)))))))
  have fz3 := H.frozen (w.heap.size) 3 (List.Mem.tail _ (List.Mem.tail _ (List.Mem.tail _ (List.Mem.tail _ (List.Mem.tail _ (List.Mem.tail _ (List.Mem.tail _ (List.Mem.head _))))))))
  go_wp2_with fail
  exact bodyPost_ret (v := .tuple #[.agg #[.int .i64 0, .int .i64 0, .bool false, .int .i64 0], .int .i64 3]) (by simp [results, Tryd.results46, go_sem, cz0, cz1, cz2, cz3, lz]) rfl ⟨rfl, ((((H.old.setCell (by simp <;> omega) _).setCell (by simp <;> omega) _).setCell (by simp <;> omega) _).setCell (by simp <;> omega) _).alloc (by simp <;> omega) _⟩

theorem read7_any : ReadSays := by
  refine ⟨fun n y m d e l w hL h => ?_⟩
  rcases h with ⟨h, hn, hl, rfl⟩ | ⟨h, rfl, rfl, rfl, rfl, rfl⟩
  · exact read7_in n y m d l w hL h hn hl
  · exact read7_out n w hL h
end Go.Proofs.YtkmjaoiehmddcaaDoor
