/- TermsFree: the walk. -/
import Derived.Test.YtmaioofcmgaakaaGreatDoorTeShown
namespace Go.Proofs.YtmaioofcmgaakaaGreatDoor
open Go.RowKit
set_option linter.unusedVariables false
set_option linter.unusedSimpArgs false


set_option maxHeartbeats 4000000 in
set_option maxRecDepth 100000 in
theorem tefree_bad (mo ra ki co st en ms : Int) (bk lg eo : Bool) (ro : Int) (x y z : Bool) (m r : Int) (c : Int) (w : World) (hL : FactsT w) (ha : (Tm.mk mo ra ki co st en ms bk lg eo ro).code = c) (hb : (Tm.mk mo ra ki co st en ms x y z ro).code = c) (e0 : (c == 0) = false) : Calls Tryz.prog 4 #[.agg #[.int .i64 mo, .int .i64 ra, .int .i64 ki, .int .i64 co, .int .i64 st, .int .i64 en, .int .i64 ms, .bool bk, .bool lg, .bool eo, .int .i64 ro, .bool x, .bool y, .bool z, .int .i64 m, .int .i64 r]] w fun e w' => e = .returned (.bool true) ∧ Below w.heap.size w w' := by
  have H := (Held.start w).add (f := factsTF) hL
  clear hL
  have e1 : (c != 0) = true := by simpa using e0
  replace ha := Lib.hid ha
  replace hb := Lib.hid hb
  go_enter Tryz.func4, Tryz.ntmps4
  go_wp2_with fail
  replace H := H.box_16 (w.heap.size) (.int .i64 mo) (.int .i64 ra) (.int .i64 ki) (.int .i64 co) (.int .i64 st) (.int .i64 en) (.int .i64 ms) (.bool bk) (.bool lg) (.bool eo) (.int .i64 ro) (.bool x) (.bool y) (.bool z) (.int .i64 m) (.int .i64 r) 36 rfl
  replace H := H.box_11 (w.heap.size + 1) (.int .i64 mo) (.int .i64 ra) (.int .i64 ki) (.int .i64 co) (.int .i64 st) (.int .i64 en) (.int .i64 ms) (.bool bk) (.bool lg) (.bool eo) (.int .i64 ro) 23 (by simp)
  (with_reducible refine (teshown_any _ (H.factsT (by repeat (first | with_reducible exact List.mem_cons_self | with_reducible apply List.mem_cons_of_mem)))).mono ?_)
  rintro e w1 ⟨rfl, hb⟩
  replace H := H.below hb
  clear hb
  have ct0 := H.cell (w.heap.size + 1) 0 (.int .i64 mo) (by repeat (first | with_reducible exact List.mem_cons_self | with_reducible apply List.mem_cons_of_mem))
  have ct1 := H.cell (w.heap.size + 1) 1 (.int .i64 ra) (by repeat (first | with_reducible exact List.mem_cons_self | with_reducible apply List.mem_cons_of_mem))
  have ct2 := H.cell (w.heap.size + 1) 2 (.int .i64 ki) (by repeat (first | with_reducible exact List.mem_cons_self | with_reducible apply List.mem_cons_of_mem))
  have ct3 := H.cell (w.heap.size + 1) 3 (.int .i64 co) (by repeat (first | with_reducible exact List.mem_cons_self | with_reducible apply List.mem_cons_of_mem))
  have ct4 := H.cell (w.heap.size + 1) 4 (.int .i64 st) (by repeat (first | with_reducible exact List.mem_cons_self | with_reducible apply List.mem_cons_of_mem))
  have ct5 := H.cell (w.heap.size + 1) 5 (.int .i64 en) (by repeat (first | with_reducible exact List.mem_cons_self | with_reducible apply List.mem_cons_of_mem))
  have ct6 := H.cell (w.heap.size + 1) 6 (.int .i64 ms) (by repeat (first | with_reducible exact List.mem_cons_self | with_reducible apply List.mem_cons_of_mem))
  have ct7 := H.cell (w.heap.size + 1) 7 (.bool bk) (by repeat (first | with_reducible exact List.mem_cons_self | with_reducible apply List.mem_cons_of_mem))
  have ct8 := H.cell (w.heap.size + 1) 8 (.bool lg) (by repeat (first | with_reducible exact List.mem_cons_self | with_reducible apply List.mem_cons_of_mem))
  have ct9 := H.cell (w.heap.size + 1) 9 (.bool eo) (by repeat (first | with_reducible exact List.mem_cons_self | with_reducible apply List.mem_cons_of_mem))
  have ct10 := H.cell (w.heap.size + 1) 10 (.int .i64 ro) (by repeat (first | with_reducible exact List.mem_cons_self | with_reducible apply List.mem_cons_of_mem))
  have lt := cell_lt ct0
  go_wp2_with fail
  clear ct0 ct1 ct2 ct3 ct4 ct5 ct6 ct7 ct8 ct9 ct10 lt
  (with_reducible refine (check15 mo ra ki co st en ms bk lg eo ro c _ (H.factsT (by repeat (first | with_reducible exact List.mem_cons_self | with_reducible apply List.mem_cons_of_mem))) ha.out).mono ?_)
  rintro e w2 ⟨rfl, hb⟩
  replace H := H.below hb
  clear hb
  have ct0 := H.cell (w.heap.size + 1) 0 (.int .i64 mo) (by repeat (first | with_reducible exact List.mem_cons_self | with_reducible apply List.mem_cons_of_mem))
  have ct1 := H.cell (w.heap.size + 1) 1 (.int .i64 ra) (by repeat (first | with_reducible exact List.mem_cons_self | with_reducible apply List.mem_cons_of_mem))
  have ct2 := H.cell (w.heap.size + 1) 2 (.int .i64 ki) (by repeat (first | with_reducible exact List.mem_cons_self | with_reducible apply List.mem_cons_of_mem))
  have ct3 := H.cell (w.heap.size + 1) 3 (.int .i64 co) (by repeat (first | with_reducible exact List.mem_cons_self | with_reducible apply List.mem_cons_of_mem))
  have ct4 := H.cell (w.heap.size + 1) 4 (.int .i64 st) (by repeat (first | with_reducible exact List.mem_cons_self | with_reducible apply List.mem_cons_of_mem))
  have ct5 := H.cell (w.heap.size + 1) 5 (.int .i64 en) (by repeat (first | with_reducible exact List.mem_cons_self | with_reducible apply List.mem_cons_of_mem))
  have ct6 := H.cell (w.heap.size + 1) 6 (.int .i64 ms) (by repeat (first | with_reducible exact List.mem_cons_self | with_reducible apply List.mem_cons_of_mem))
  have ct7 := H.cell (w.heap.size + 1) 7 (.bool bk) (by repeat (first | with_reducible exact List.mem_cons_self | with_reducible apply List.mem_cons_of_mem))
  have ct8 := H.cell (w.heap.size + 1) 8 (.bool lg) (by repeat (first | with_reducible exact List.mem_cons_self | with_reducible apply List.mem_cons_of_mem))
  have ct9 := H.cell (w.heap.size + 1) 9 (.bool eo) (by repeat (first | with_reducible exact List.mem_cons_self | with_reducible apply List.mem_cons_of_mem))
  have ct10 := H.cell (w.heap.size + 1) 10 (.int .i64 ro) (by repeat (first | with_reducible exact List.mem_cons_self | with_reducible apply List.mem_cons_of_mem))
  have lt := cell_lt ct0
  go_wp2_with fail
  clear ct0 ct1 ct2 ct3 ct4 ct5 ct6 ct7 ct8 ct9 ct10 lt
  replace H := H.box_11 (w2.heap.size) (.int .i64 mo) (.int .i64 ra) (.int .i64 ki) (.int .i64 co) (.int .i64 st) (.int .i64 en) (.int .i64 ms) (.bool x) (.bool y) (.bool z) (.int .i64 ro) 23 rfl
  (with_reducible refine (check15 mo ra ki co st en ms x y z ro c _ (H.factsT (by repeat (first | with_reducible exact List.mem_cons_self | with_reducible apply List.mem_cons_of_mem))) hb.out).mono ?_)
  rintro e w3 ⟨rfl, hb⟩
  replace H := H.below hb
  clear hb
  have ct0 := H.cell (w.heap.size + 1) 0 (.int .i64 mo) (by repeat (first | with_reducible exact List.mem_cons_self | with_reducible apply List.mem_cons_of_mem))
  have ct1 := H.cell (w.heap.size + 1) 1 (.int .i64 ra) (by repeat (first | with_reducible exact List.mem_cons_self | with_reducible apply List.mem_cons_of_mem))
  have ct2 := H.cell (w.heap.size + 1) 2 (.int .i64 ki) (by repeat (first | with_reducible exact List.mem_cons_self | with_reducible apply List.mem_cons_of_mem))
  have ct3 := H.cell (w.heap.size + 1) 3 (.int .i64 co) (by repeat (first | with_reducible exact List.mem_cons_self | with_reducible apply List.mem_cons_of_mem))
  have ct4 := H.cell (w.heap.size + 1) 4 (.int .i64 st) (by repeat (first | with_reducible exact List.mem_cons_self | with_reducible apply List.mem_cons_of_mem))
  have ct5 := H.cell (w.heap.size + 1) 5 (.int .i64 en) (by repeat (first | with_reducible exact List.mem_cons_self | with_reducible apply List.mem_cons_of_mem))
  have ct6 := H.cell (w.heap.size + 1) 6 (.int .i64 ms) (by repeat (first | with_reducible exact List.mem_cons_self | with_reducible apply List.mem_cons_of_mem))
  have ct7 := H.cell (w.heap.size + 1) 7 (.bool bk) (by repeat (first | with_reducible exact List.mem_cons_self | with_reducible apply List.mem_cons_of_mem))
  have ct8 := H.cell (w.heap.size + 1) 8 (.bool lg) (by repeat (first | with_reducible exact List.mem_cons_self | with_reducible apply List.mem_cons_of_mem))
  have ct9 := H.cell (w.heap.size + 1) 9 (.bool eo) (by repeat (first | with_reducible exact List.mem_cons_self | with_reducible apply List.mem_cons_of_mem))
  have ct10 := H.cell (w.heap.size + 1) 10 (.int .i64 ro) (by repeat (first | with_reducible exact List.mem_cons_self | with_reducible apply List.mem_cons_of_mem))
  have lt := cell_lt ct0
  repeat' (first | simp only [List.append_eq, List.cons_append, List.nil_append] | go_values | go_skip | go_guarded | go_step | go_upon)
  all_goals (go_ret; exact ⟨rfl, (H.alloc _).old⟩)

set_option maxHeartbeats 4000000 in
set_option maxRecDepth 100000 in
theorem tefree_m0 (mo ra ki co st en ms : Int) (bk lg eo : Bool) (ro : Int) (x y z : Bool) (m r : Int) (w : World) (hL : FactsT w) (ha : (Tm.mk mo ra ki co st en ms bk lg eo ro).code = 0) (hb : (Tm.mk mo ra ki co st en ms x y z ro).code = 0) (e1 : decide (m < 1) = true) : Calls Tryz.prog 4 #[.agg #[.int .i64 mo, .int .i64 ra, .int .i64 ki, .int .i64 co, .int .i64 st, .int .i64 en, .int .i64 ms, .bool bk, .bool lg, .bool eo, .int .i64 ro, .bool x, .bool y, .bool z, .int .i64 m, .int .i64 r]] w fun e w' => e = .returned (.bool true) ∧ Below w.heap.size w w' := by
  have H := (Held.start w).add (f := factsTF) hL
  clear hL
  replace ha := Lib.hid ha
  replace hb := Lib.hid hb
  go_enter Tryz.func4, Tryz.ntmps4
  go_wp2_with fail
  replace H := H.box_16 (w.heap.size) (.int .i64 mo) (.int .i64 ra) (.int .i64 ki) (.int .i64 co) (.int .i64 st) (.int .i64 en) (.int .i64 ms) (.bool bk) (.bool lg) (.bool eo) (.int .i64 ro) (.bool x) (.bool y) (.bool z) (.int .i64 m) (.int .i64 r) 36 rfl
  replace H := H.box_11 (w.heap.size + 1) (.int .i64 mo) (.int .i64 ra) (.int .i64 ki) (.int .i64 co) (.int .i64 st) (.int .i64 en) (.int .i64 ms) (.bool bk) (.bool lg) (.bool eo) (.int .i64 ro) 23 (by simp)
  (with_reducible refine (teshown_any _ (H.factsT (by repeat (first | with_reducible exact List.mem_cons_self | with_reducible apply List.mem_cons_of_mem)))).mono ?_)
  rintro e w1 ⟨rfl, hb⟩
  replace H := H.below hb
  clear hb
  have ct0 := H.cell (w.heap.size + 1) 0 (.int .i64 mo) (by repeat (first | with_reducible exact List.mem_cons_self | with_reducible apply List.mem_cons_of_mem))
  have ct1 := H.cell (w.heap.size + 1) 1 (.int .i64 ra) (by repeat (first | with_reducible exact List.mem_cons_self | with_reducible apply List.mem_cons_of_mem))
  have ct2 := H.cell (w.heap.size + 1) 2 (.int .i64 ki) (by repeat (first | with_reducible exact List.mem_cons_self | with_reducible apply List.mem_cons_of_mem))
  have ct3 := H.cell (w.heap.size + 1) 3 (.int .i64 co) (by repeat (first | with_reducible exact List.mem_cons_self | with_reducible apply List.mem_cons_of_mem))
  have ct4 := H.cell (w.heap.size + 1) 4 (.int .i64 st) (by repeat (first | with_reducible exact List.mem_cons_self | with_reducible apply List.mem_cons_of_mem))
  have ct5 := H.cell (w.heap.size + 1) 5 (.int .i64 en) (by repeat (first | with_reducible exact List.mem_cons_self | with_reducible apply List.mem_cons_of_mem))
  have ct6 := H.cell (w.heap.size + 1) 6 (.int .i64 ms) (by repeat (first | with_reducible exact List.mem_cons_self | with_reducible apply List.mem_cons_of_mem))
  have ct7 := H.cell (w.heap.size + 1) 7 (.bool bk) (by repeat (first | with_reducible exact List.mem_cons_self | with_reducible apply List.mem_cons_of_mem))
  have ct8 := H.cell (w.heap.size + 1) 8 (.bool lg) (by repeat (first | with_reducible exact List.mem_cons_self | with_reducible apply List.mem_cons_of_mem))
  have ct9 := H.cell (w.heap.size + 1) 9 (.bool eo) (by repeat (first | with_reducible exact List.mem_cons_self | with_reducible apply List.mem_cons_of_mem))
  have ct10 := H.cell (w.heap.size + 1) 10 (.int .i64 ro) (by repeat (first | with_reducible exact List.mem_cons_self | with_reducible apply List.mem_cons_of_mem))
  have lt := cell_lt ct0
  go_wp2_with fail
  clear ct0 ct1 ct2 ct3 ct4 ct5 ct6 ct7 ct8 ct9 ct10 lt
  (with_reducible refine (check15 mo ra ki co st en ms bk lg eo ro 0 _ (H.factsT (by repeat (first | with_reducible exact List.mem_cons_self | with_reducible apply List.mem_cons_of_mem))) ha.out).mono ?_)
  rintro e w2 ⟨rfl, hb⟩
  replace H := H.below hb
  clear hb
  have ct0 := H.cell (w.heap.size + 1) 0 (.int .i64 mo) (by repeat (first | with_reducible exact List.mem_cons_self | with_reducible apply List.mem_cons_of_mem))
  have ct1 := H.cell (w.heap.size + 1) 1 (.int .i64 ra) (by repeat (first | with_reducible exact List.mem_cons_self | with_reducible apply List.mem_cons_of_mem))
  have ct2 := H.cell (w.heap.size + 1) 2 (.int .i64 ki) (by repeat (first | with_reducible exact List.mem_cons_self | with_reducible apply List.mem_cons_of_mem))
  have ct3 := H.cell (w.heap.size + 1) 3 (.int .i64 co) (by repeat (first | with_reducible exact List.mem_cons_self | with_reducible apply List.mem_cons_of_mem))
  have ct4 := H.cell (w.heap.size + 1) 4 (.int .i64 st) (by repeat (first | with_reducible exact List.mem_cons_self | with_reducible apply List.mem_cons_of_mem))
  have ct5 := H.cell (w.heap.size + 1) 5 (.int .i64 en) (by repeat (first | with_reducible exact List.mem_cons_self | with_reducible apply List.mem_cons_of_mem))
  have ct6 := H.cell (w.heap.size + 1) 6 (.int .i64 ms) (by repeat (first | with_reducible exact List.mem_cons_self | with_reducible apply List.mem_cons_of_mem))
  have ct7 := H.cell (w.heap.size + 1) 7 (.bool bk) (by repeat (first | with_reducible exact List.mem_cons_self | with_reducible apply List.mem_cons_of_mem))
  have ct8 := H.cell (w.heap.size + 1) 8 (.bool lg) (by repeat (first | with_reducible exact List.mem_cons_self | with_reducible apply List.mem_cons_of_mem))
  have ct9 := H.cell (w.heap.size + 1) 9 (.bool eo) (by repeat (first | with_reducible exact List.mem_cons_self | with_reducible apply List.mem_cons_of_mem))
  have ct10 := H.cell (w.heap.size + 1) 10 (.int .i64 ro) (by repeat (first | with_reducible exact List.mem_cons_self | with_reducible apply List.mem_cons_of_mem))
  have lt := cell_lt ct0
  go_wp2_with fail
  clear ct0 ct1 ct2 ct3 ct4 ct5 ct6 ct7 ct8 ct9 ct10 lt
  replace H := H.box_11 (w2.heap.size) (.int .i64 mo) (.int .i64 ra) (.int .i64 ki) (.int .i64 co) (.int .i64 st) (.int .i64 en) (.int .i64 ms) (.bool x) (.bool y) (.bool z) (.int .i64 ro) 23 rfl
  (with_reducible refine (check15 mo ra ki co st en ms x y z ro 0 _ (H.factsT (by repeat (first | with_reducible exact List.mem_cons_self | with_reducible apply List.mem_cons_of_mem))) hb.out).mono ?_)
  rintro e w3 ⟨rfl, hb⟩
  replace H := H.below hb
  clear hb
  have ct0 := H.cell (w.heap.size + 1) 0 (.int .i64 mo) (by repeat (first | with_reducible exact List.mem_cons_self | with_reducible apply List.mem_cons_of_mem))
  have ct1 := H.cell (w.heap.size + 1) 1 (.int .i64 ra) (by repeat (first | with_reducible exact List.mem_cons_self | with_reducible apply List.mem_cons_of_mem))
  have ct2 := H.cell (w.heap.size + 1) 2 (.int .i64 ki) (by repeat (first | with_reducible exact List.mem_cons_self | with_reducible apply List.mem_cons_of_mem))
  have ct3 := H.cell (w.heap.size + 1) 3 (.int .i64 co) (by repeat (first | with_reducible exact List.mem_cons_self | with_reducible apply List.mem_cons_of_mem))
  have ct4 := H.cell (w.heap.size + 1) 4 (.int .i64 st) (by repeat (first | with_reducible exact List.mem_cons_self | with_reducible apply List.mem_cons_of_mem))
  have ct5 := H.cell (w.heap.size + 1) 5 (.int .i64 en) (by repeat (first | with_reducible exact List.mem_cons_self | with_reducible apply List.mem_cons_of_mem))
  have ct6 := H.cell (w.heap.size + 1) 6 (.int .i64 ms) (by repeat (first | with_reducible exact List.mem_cons_self | with_reducible apply List.mem_cons_of_mem))
  have ct7 := H.cell (w.heap.size + 1) 7 (.bool bk) (by repeat (first | with_reducible exact List.mem_cons_self | with_reducible apply List.mem_cons_of_mem))
  have ct8 := H.cell (w.heap.size + 1) 8 (.bool lg) (by repeat (first | with_reducible exact List.mem_cons_self | with_reducible apply List.mem_cons_of_mem))
  have ct9 := H.cell (w.heap.size + 1) 9 (.bool eo) (by repeat (first | with_reducible exact List.mem_cons_self | with_reducible apply List.mem_cons_of_mem))
  have ct10 := H.cell (w.heap.size + 1) 10 (.int .i64 ro) (by repeat (first | with_reducible exact List.mem_cons_self | with_reducible apply List.mem_cons_of_mem))
  have lt := cell_lt ct0
  repeat' (first | simp only [List.append_eq, List.cons_append, List.nil_append] | go_values | go_skip | go_guarded | go_step | go_upon)
  all_goals (go_ret; exact ⟨rfl, (H.alloc _).old⟩)

set_option maxHeartbeats 4000000 in
set_option maxRecDepth 100000 in
theorem tefree_m1 (mo ra ki co st en ms : Int) (bk lg eo : Bool) (ro : Int) (x y z : Bool) (m r : Int) (w : World) (hL : FactsT w) (ha : (Tm.mk mo ra ki co st en ms bk lg eo ro).code = 0) (hb : (Tm.mk mo ra ki co st en ms x y z ro).code = 0) (e1 : decide (m < 1) = false) (e2 : decide (m > mo) = true) : Calls Tryz.prog 4 #[.agg #[.int .i64 mo, .int .i64 ra, .int .i64 ki, .int .i64 co, .int .i64 st, .int .i64 en, .int .i64 ms, .bool bk, .bool lg, .bool eo, .int .i64 ro, .bool x, .bool y, .bool z, .int .i64 m, .int .i64 r]] w fun e w' => e = .returned (.bool true) ∧ Below w.heap.size w w' := by
  have H := (Held.start w).add (f := factsTF) hL
  clear hL
  replace ha := Lib.hid ha
  replace hb := Lib.hid hb
  go_enter Tryz.func4, Tryz.ntmps4
  go_wp2_with fail
  replace H := H.box_16 (w.heap.size) (.int .i64 mo) (.int .i64 ra) (.int .i64 ki) (.int .i64 co) (.int .i64 st) (.int .i64 en) (.int .i64 ms) (.bool bk) (.bool lg) (.bool eo) (.int .i64 ro) (.bool x) (.bool y) (.bool z) (.int .i64 m) (.int .i64 r) 36 rfl
  replace H := H.box_11 (w.heap.size + 1) (.int .i64 mo) (.int .i64 ra) (.int .i64 ki) (.int .i64 co) (.int .i64 st) (.int .i64 en) (.int .i64 ms) (.bool bk) (.bool lg) (.bool eo) (.int .i64 ro) 23 (by simp)
  (with_reducible refine (teshown_any _ (H.factsT (by repeat (first | with_reducible exact List.mem_cons_self | with_reducible apply List.mem_cons_of_mem)))).mono ?_)
  rintro e w1 ⟨rfl, hb⟩
  replace H := H.below hb
  clear hb
  have ct0 := H.cell (w.heap.size + 1) 0 (.int .i64 mo) (by repeat (first | with_reducible exact List.mem_cons_self | with_reducible apply List.mem_cons_of_mem))
  have ct1 := H.cell (w.heap.size + 1) 1 (.int .i64 ra) (by repeat (first | with_reducible exact List.mem_cons_self | with_reducible apply List.mem_cons_of_mem))
  have ct2 := H.cell (w.heap.size + 1) 2 (.int .i64 ki) (by repeat (first | with_reducible exact List.mem_cons_self | with_reducible apply List.mem_cons_of_mem))
  have ct3 := H.cell (w.heap.size + 1) 3 (.int .i64 co) (by repeat (first | with_reducible exact List.mem_cons_self | with_reducible apply List.mem_cons_of_mem))
  have ct4 := H.cell (w.heap.size + 1) 4 (.int .i64 st) (by repeat (first | with_reducible exact List.mem_cons_self | with_reducible apply List.mem_cons_of_mem))
  have ct5 := H.cell (w.heap.size + 1) 5 (.int .i64 en) (by repeat (first | with_reducible exact List.mem_cons_self | with_reducible apply List.mem_cons_of_mem))
  have ct6 := H.cell (w.heap.size + 1) 6 (.int .i64 ms) (by repeat (first | with_reducible exact List.mem_cons_self | with_reducible apply List.mem_cons_of_mem))
  have ct7 := H.cell (w.heap.size + 1) 7 (.bool bk) (by repeat (first | with_reducible exact List.mem_cons_self | with_reducible apply List.mem_cons_of_mem))
  have ct8 := H.cell (w.heap.size + 1) 8 (.bool lg) (by repeat (first | with_reducible exact List.mem_cons_self | with_reducible apply List.mem_cons_of_mem))
  have ct9 := H.cell (w.heap.size + 1) 9 (.bool eo) (by repeat (first | with_reducible exact List.mem_cons_self | with_reducible apply List.mem_cons_of_mem))
  have ct10 := H.cell (w.heap.size + 1) 10 (.int .i64 ro) (by repeat (first | with_reducible exact List.mem_cons_self | with_reducible apply List.mem_cons_of_mem))
  have lt := cell_lt ct0
  go_wp2_with fail
  clear ct0 ct1 ct2 ct3 ct4 ct5 ct6 ct7 ct8 ct9 ct10 lt
  (with_reducible refine (check15 mo ra ki co st en ms bk lg eo ro 0 _ (H.factsT (by repeat (first | with_reducible exact List.mem_cons_self | with_reducible apply List.mem_cons_of_mem))) ha.out).mono ?_)
  rintro e w2 ⟨rfl, hb⟩
  replace H := H.below hb
  clear hb
  have ct0 := H.cell (w.heap.size + 1) 0 (.int .i64 mo) (by repeat (first | with_reducible exact List.mem_cons_self | with_reducible apply List.mem_cons_of_mem))
  have ct1 := H.cell (w.heap.size + 1) 1 (.int .i64 ra) (by repeat (first | with_reducible exact List.mem_cons_self | with_reducible apply List.mem_cons_of_mem))
  have ct2 := H.cell (w.heap.size + 1) 2 (.int .i64 ki) (by repeat (first | with_reducible exact List.mem_cons_self | with_reducible apply List.mem_cons_of_mem))
  have ct3 := H.cell (w.heap.size + 1) 3 (.int .i64 co) (by repeat (first | with_reducible exact List.mem_cons_self | with_reducible apply List.mem_cons_of_mem))
  have ct4 := H.cell (w.heap.size + 1) 4 (.int .i64 st) (by repeat (first | with_reducible exact List.mem_cons_self | with_reducible apply List.mem_cons_of_mem))
  have ct5 := H.cell (w.heap.size + 1) 5 (.int .i64 en) (by repeat (first | with_reducible exact List.mem_cons_self | with_reducible apply List.mem_cons_of_mem))
  have ct6 := H.cell (w.heap.size + 1) 6 (.int .i64 ms) (by repeat (first | with_reducible exact List.mem_cons_self | with_reducible apply List.mem_cons_of_mem))
  have ct7 := H.cell (w.heap.size + 1) 7 (.bool bk) (by repeat (first | with_reducible exact List.mem_cons_self | with_reducible apply List.mem_cons_of_mem))
  have ct8 := H.cell (w.heap.size + 1) 8 (.bool lg) (by repeat (first | with_reducible exact List.mem_cons_self | with_reducible apply List.mem_cons_of_mem))
  have ct9 := H.cell (w.heap.size + 1) 9 (.bool eo) (by repeat (first | with_reducible exact List.mem_cons_self | with_reducible apply List.mem_cons_of_mem))
  have ct10 := H.cell (w.heap.size + 1) 10 (.int .i64 ro) (by repeat (first | with_reducible exact List.mem_cons_self | with_reducible apply List.mem_cons_of_mem))
  have lt := cell_lt ct0
  go_wp2_with fail
  clear ct0 ct1 ct2 ct3 ct4 ct5 ct6 ct7 ct8 ct9 ct10 lt
  replace H := H.box_11 (w2.heap.size) (.int .i64 mo) (.int .i64 ra) (.int .i64 ki) (.int .i64 co) (.int .i64 st) (.int .i64 en) (.int .i64 ms) (.bool x) (.bool y) (.bool z) (.int .i64 ro) 23 rfl
  (with_reducible refine (check15 mo ra ki co st en ms x y z ro 0 _ (H.factsT (by repeat (first | with_reducible exact List.mem_cons_self | with_reducible apply List.mem_cons_of_mem))) hb.out).mono ?_)
  rintro e w3 ⟨rfl, hb⟩
  replace H := H.below hb
  clear hb
  have ct0 := H.cell (w.heap.size + 1) 0 (.int .i64 mo) (by repeat (first | with_reducible exact List.mem_cons_self | with_reducible apply List.mem_cons_of_mem))
  have ct1 := H.cell (w.heap.size + 1) 1 (.int .i64 ra) (by repeat (first | with_reducible exact List.mem_cons_self | with_reducible apply List.mem_cons_of_mem))
  have ct2 := H.cell (w.heap.size + 1) 2 (.int .i64 ki) (by repeat (first | with_reducible exact List.mem_cons_self | with_reducible apply List.mem_cons_of_mem))
  have ct3 := H.cell (w.heap.size + 1) 3 (.int .i64 co) (by repeat (first | with_reducible exact List.mem_cons_self | with_reducible apply List.mem_cons_of_mem))
  have ct4 := H.cell (w.heap.size + 1) 4 (.int .i64 st) (by repeat (first | with_reducible exact List.mem_cons_self | with_reducible apply List.mem_cons_of_mem))
  have ct5 := H.cell (w.heap.size + 1) 5 (.int .i64 en) (by repeat (first | with_reducible exact List.mem_cons_self | with_reducible apply List.mem_cons_of_mem))
  have ct6 := H.cell (w.heap.size + 1) 6 (.int .i64 ms) (by repeat (first | with_reducible exact List.mem_cons_self | with_reducible apply List.mem_cons_of_mem))
  have ct7 := H.cell (w.heap.size + 1) 7 (.bool bk) (by repeat (first | with_reducible exact List.mem_cons_self | with_reducible apply List.mem_cons_of_mem))
  have ct8 := H.cell (w.heap.size + 1) 8 (.bool lg) (by repeat (first | with_reducible exact List.mem_cons_self | with_reducible apply List.mem_cons_of_mem))
  have ct9 := H.cell (w.heap.size + 1) 9 (.bool eo) (by repeat (first | with_reducible exact List.mem_cons_self | with_reducible apply List.mem_cons_of_mem))
  have ct10 := H.cell (w.heap.size + 1) 10 (.int .i64 ro) (by repeat (first | with_reducible exact List.mem_cons_self | with_reducible apply List.mem_cons_of_mem))
  have lt := cell_lt ct0
  repeat' (first | simp only [List.append_eq, List.cons_append, List.nil_append] | go_values | go_skip | go_guarded | go_step | go_upon)
  all_goals (go_ret; exact ⟨rfl, (H.alloc _).old⟩)

set_option maxHeartbeats 4000000 in
set_option maxRecDepth 100000 in
theorem tefree_r0 (mo ra ki co st en ms : Int) (bk lg eo : Bool) (ro : Int) (x y z : Bool) (m r : Int) (w : World) (hL : FactsT w) (ha : (Tm.mk mo ra ki co st en ms bk lg eo ro).code = 0) (hb : (Tm.mk mo ra ki co st en ms x y z ro).code = 0) (e1 : decide (m < 1) = false) (e2 : decide (m > mo) = false) (e3 : decide (r < 0) = true) : Calls Tryz.prog 4 #[.agg #[.int .i64 mo, .int .i64 ra, .int .i64 ki, .int .i64 co, .int .i64 st, .int .i64 en, .int .i64 ms, .bool bk, .bool lg, .bool eo, .int .i64 ro, .bool x, .bool y, .bool z, .int .i64 m, .int .i64 r]] w fun e w' => e = .returned (.bool true) ∧ Below w.heap.size w w' := by
  have H := (Held.start w).add (f := factsTF) hL
  clear hL
  replace ha := Lib.hid ha
  replace hb := Lib.hid hb
  go_enter Tryz.func4, Tryz.ntmps4
  go_wp2_with fail
  replace H := H.box_16 (w.heap.size) (.int .i64 mo) (.int .i64 ra) (.int .i64 ki) (.int .i64 co) (.int .i64 st) (.int .i64 en) (.int .i64 ms) (.bool bk) (.bool lg) (.bool eo) (.int .i64 ro) (.bool x) (.bool y) (.bool z) (.int .i64 m) (.int .i64 r) 36 rfl
  replace H := H.box_11 (w.heap.size + 1) (.int .i64 mo) (.int .i64 ra) (.int .i64 ki) (.int .i64 co) (.int .i64 st) (.int .i64 en) (.int .i64 ms) (.bool bk) (.bool lg) (.bool eo) (.int .i64 ro) 23 (by simp)
  (with_reducible refine (teshown_any _ (H.factsT (by repeat (first | with_reducible exact List.mem_cons_self | with_reducible apply List.mem_cons_of_mem)))).mono ?_)
  rintro e w1 ⟨rfl, hb⟩
  replace H := H.below hb
  clear hb
  have ct0 := H.cell (w.heap.size + 1) 0 (.int .i64 mo) (by repeat (first | with_reducible exact List.mem_cons_self | with_reducible apply List.mem_cons_of_mem))
  have ct1 := H.cell (w.heap.size + 1) 1 (.int .i64 ra) (by repeat (first | with_reducible exact List.mem_cons_self | with_reducible apply List.mem_cons_of_mem))
  have ct2 := H.cell (w.heap.size + 1) 2 (.int .i64 ki) (by repeat (first | with_reducible exact List.mem_cons_self | with_reducible apply List.mem_cons_of_mem))
  have ct3 := H.cell (w.heap.size + 1) 3 (.int .i64 co) (by repeat (first | with_reducible exact List.mem_cons_self | with_reducible apply List.mem_cons_of_mem))
  have ct4 := H.cell (w.heap.size + 1) 4 (.int .i64 st) (by repeat (first | with_reducible exact List.mem_cons_self | with_reducible apply List.mem_cons_of_mem))
  have ct5 := H.cell (w.heap.size + 1) 5 (.int .i64 en) (by repeat (first | with_reducible exact List.mem_cons_self | with_reducible apply List.mem_cons_of_mem))
  have ct6 := H.cell (w.heap.size + 1) 6 (.int .i64 ms) (by repeat (first | with_reducible exact List.mem_cons_self | with_reducible apply List.mem_cons_of_mem))
  have ct7 := H.cell (w.heap.size + 1) 7 (.bool bk) (by repeat (first | with_reducible exact List.mem_cons_self | with_reducible apply List.mem_cons_of_mem))
  have ct8 := H.cell (w.heap.size + 1) 8 (.bool lg) (by repeat (first | with_reducible exact List.mem_cons_self | with_reducible apply List.mem_cons_of_mem))
  have ct9 := H.cell (w.heap.size + 1) 9 (.bool eo) (by repeat (first | with_reducible exact List.mem_cons_self | with_reducible apply List.mem_cons_of_mem))
  have ct10 := H.cell (w.heap.size + 1) 10 (.int .i64 ro) (by repeat (first | with_reducible exact List.mem_cons_self | with_reducible apply List.mem_cons_of_mem))
  have lt := cell_lt ct0
  go_wp2_with fail
  clear ct0 ct1 ct2 ct3 ct4 ct5 ct6 ct7 ct8 ct9 ct10 lt
  (with_reducible refine (check15 mo ra ki co st en ms bk lg eo ro 0 _ (H.factsT (by repeat (first | with_reducible exact List.mem_cons_self | with_reducible apply List.mem_cons_of_mem))) ha.out).mono ?_)
  rintro e w2 ⟨rfl, hb⟩
  replace H := H.below hb
  clear hb
  have ct0 := H.cell (w.heap.size + 1) 0 (.int .i64 mo) (by repeat (first | with_reducible exact List.mem_cons_self | with_reducible apply List.mem_cons_of_mem))
  have ct1 := H.cell (w.heap.size + 1) 1 (.int .i64 ra) (by repeat (first | with_reducible exact List.mem_cons_self | with_reducible apply List.mem_cons_of_mem))
  have ct2 := H.cell (w.heap.size + 1) 2 (.int .i64 ki) (by repeat (first | with_reducible exact List.mem_cons_self | with_reducible apply List.mem_cons_of_mem))
  have ct3 := H.cell (w.heap.size + 1) 3 (.int .i64 co) (by repeat (first | with_reducible exact List.mem_cons_self | with_reducible apply List.mem_cons_of_mem))
  have ct4 := H.cell (w.heap.size + 1) 4 (.int .i64 st) (by repeat (first | with_reducible exact List.mem_cons_self | with_reducible apply List.mem_cons_of_mem))
  have ct5 := H.cell (w.heap.size + 1) 5 (.int .i64 en) (by repeat (first | with_reducible exact List.mem_cons_self | with_reducible apply List.mem_cons_of_mem))
  have ct6 := H.cell (w.heap.size + 1) 6 (.int .i64 ms) (by repeat (first | with_reducible exact List.mem_cons_self | with_reducible apply List.mem_cons_of_mem))
  have ct7 := H.cell (w.heap.size + 1) 7 (.bool bk) (by repeat (first | with_reducible exact List.mem_cons_self | with_reducible apply List.mem_cons_of_mem))
  have ct8 := H.cell (w.heap.size + 1) 8 (.bool lg) (by repeat (first | with_reducible exact List.mem_cons_self | with_reducible apply List.mem_cons_of_mem))
  have ct9 := H.cell (w.heap.size + 1) 9 (.bool eo) (by repeat (first | with_reducible exact List.mem_cons_self | with_reducible apply List.mem_cons_of_mem))
  have ct10 := H.cell (w.heap.size + 1) 10 (.int .i64 ro) (by repeat (first | with_reducible exact List.mem_cons_self | with_reducible apply List.mem_cons_of_mem))
  have lt := cell_lt ct0
  go_wp2_with fail
  clear ct0 ct1 ct2 ct3 ct4 ct5 ct6 ct7 ct8 ct9 ct10 lt
  replace H := H.box_11 (w2.heap.size) (.int .i64 mo) (.int .i64 ra) (.int .i64 ki) (.int .i64 co) (.int .i64 st) (.int .i64 en) (.int .i64 ms) (.bool x) (.bool y) (.bool z) (.int .i64 ro) 23 rfl
  (with_reducible refine (check15 mo ra ki co st en ms x y z ro 0 _ (H.factsT (by repeat (first | with_reducible exact List.mem_cons_self | with_reducible apply List.mem_cons_of_mem))) hb.out).mono ?_)
  rintro e w3 ⟨rfl, hb⟩
  replace H := H.below hb
  clear hb
  have ct0 := H.cell (w.heap.size + 1) 0 (.int .i64 mo) (by repeat (first | with_reducible exact List.mem_cons_self | with_reducible apply List.mem_cons_of_mem))
  have ct1 := H.cell (w.heap.size + 1) 1 (.int .i64 ra) (by repeat (first | with_reducible exact List.mem_cons_self | with_reducible apply List.mem_cons_of_mem))
  have ct2 := H.cell (w.heap.size + 1) 2 (.int .i64 ki) (by repeat (first | with_reducible exact List.mem_cons_self | with_reducible apply List.mem_cons_of_mem))
  have ct3 := H.cell (w.heap.size + 1) 3 (.int .i64 co) (by repeat (first | with_reducible exact List.mem_cons_self | with_reducible apply List.mem_cons_of_mem))
  have ct4 := H.cell (w.heap.size + 1) 4 (.int .i64 st) (by repeat (first | with_reducible exact List.mem_cons_self | with_reducible apply List.mem_cons_of_mem))
  have ct5 := H.cell (w.heap.size + 1) 5 (.int .i64 en) (by repeat (first | with_reducible exact List.mem_cons_self | with_reducible apply List.mem_cons_of_mem))
  have ct6 := H.cell (w.heap.size + 1) 6 (.int .i64 ms) (by repeat (first | with_reducible exact List.mem_cons_self | with_reducible apply List.mem_cons_of_mem))
  have ct7 := H.cell (w.heap.size + 1) 7 (.bool bk) (by repeat (first | with_reducible exact List.mem_cons_self | with_reducible apply List.mem_cons_of_mem))
  have ct8 := H.cell (w.heap.size + 1) 8 (.bool lg) (by repeat (first | with_reducible exact List.mem_cons_self | with_reducible apply List.mem_cons_of_mem))
  have ct9 := H.cell (w.heap.size + 1) 9 (.bool eo) (by repeat (first | with_reducible exact List.mem_cons_self | with_reducible apply List.mem_cons_of_mem))
  have ct10 := H.cell (w.heap.size + 1) 10 (.int .i64 ro) (by repeat (first | with_reducible exact List.mem_cons_self | with_reducible apply List.mem_cons_of_mem))
  have lt := cell_lt ct0
  repeat' (first | simp only [List.append_eq, List.cons_append, List.nil_append] | go_values | go_skip | go_guarded | go_step | go_upon)
  all_goals (go_ret; exact ⟨rfl, (H.alloc _).old⟩)

set_option maxHeartbeats 4000000 in
set_option maxRecDepth 100000 in
theorem tefree_r1 (mo ra ki co st en ms : Int) (bk lg eo : Bool) (ro : Int) (x y z : Bool) (m r : Int) (w : World) (hL : FactsT w) (ha : (Tm.mk mo ra ki co st en ms bk lg eo ro).code = 0) (hb : (Tm.mk mo ra ki co st en ms x y z ro).code = 0) (e1 : decide (m < 1) = false) (e2 : decide (m > mo) = false) (e3 : decide (r < 0) = false) (e4 : decide (r > ra) = true) : Calls Tryz.prog 4 #[.agg #[.int .i64 mo, .int .i64 ra, .int .i64 ki, .int .i64 co, .int .i64 st, .int .i64 en, .int .i64 ms, .bool bk, .bool lg, .bool eo, .int .i64 ro, .bool x, .bool y, .bool z, .int .i64 m, .int .i64 r]] w fun e w' => e = .returned (.bool true) ∧ Below w.heap.size w w' := by
  have H := (Held.start w).add (f := factsTF) hL
  clear hL
  replace ha := Lib.hid ha
  replace hb := Lib.hid hb
  go_enter Tryz.func4, Tryz.ntmps4
  go_wp2_with fail
  replace H := H.box_16 (w.heap.size) (.int .i64 mo) (.int .i64 ra) (.int .i64 ki) (.int .i64 co) (.int .i64 st) (.int .i64 en) (.int .i64 ms) (.bool bk) (.bool lg) (.bool eo) (.int .i64 ro) (.bool x) (.bool y) (.bool z) (.int .i64 m) (.int .i64 r) 36 rfl
  replace H := H.box_11 (w.heap.size + 1) (.int .i64 mo) (.int .i64 ra) (.int .i64 ki) (.int .i64 co) (.int .i64 st) (.int .i64 en) (.int .i64 ms) (.bool bk) (.bool lg) (.bool eo) (.int .i64 ro) 23 (by simp)
  (with_reducible refine (teshown_any _ (H.factsT (by repeat (first | with_reducible exact List.mem_cons_self | with_reducible apply List.mem_cons_of_mem)))).mono ?_)
  rintro e w1 ⟨rfl, hb⟩
  replace H := H.below hb
  clear hb
  have ct0 := H.cell (w.heap.size + 1) 0 (.int .i64 mo) (by repeat (first | with_reducible exact List.mem_cons_self | with_reducible apply List.mem_cons_of_mem))
  have ct1 := H.cell (w.heap.size + 1) 1 (.int .i64 ra) (by repeat (first | with_reducible exact List.mem_cons_self | with_reducible apply List.mem_cons_of_mem))
  have ct2 := H.cell (w.heap.size + 1) 2 (.int .i64 ki) (by repeat (first | with_reducible exact List.mem_cons_self | with_reducible apply List.mem_cons_of_mem))
  have ct3 := H.cell (w.heap.size + 1) 3 (.int .i64 co) (by repeat (first | with_reducible exact List.mem_cons_self | with_reducible apply List.mem_cons_of_mem))
  have ct4 := H.cell (w.heap.size + 1) 4 (.int .i64 st) (by repeat (first | with_reducible exact List.mem_cons_self | with_reducible apply List.mem_cons_of_mem))
  have ct5 := H.cell (w.heap.size + 1) 5 (.int .i64 en) (by repeat (first | with_reducible exact List.mem_cons_self | with_reducible apply List.mem_cons_of_mem))
  have ct6 := H.cell (w.heap.size + 1) 6 (.int .i64 ms) (by repeat (first | with_reducible exact List.mem_cons_self | with_reducible apply List.mem_cons_of_mem))
  have ct7 := H.cell (w.heap.size + 1) 7 (.bool bk) (by repeat (first | with_reducible exact List.mem_cons_self | with_reducible apply List.mem_cons_of_mem))
  have ct8 := H.cell (w.heap.size + 1) 8 (.bool lg) (by repeat (first | with_reducible exact List.mem_cons_self | with_reducible apply List.mem_cons_of_mem))
  have ct9 := H.cell (w.heap.size + 1) 9 (.bool eo) (by repeat (first | with_reducible exact List.mem_cons_self | with_reducible apply List.mem_cons_of_mem))
  have ct10 := H.cell (w.heap.size + 1) 10 (.int .i64 ro) (by repeat (first | with_reducible exact List.mem_cons_self | with_reducible apply List.mem_cons_of_mem))
  have lt := cell_lt ct0
  go_wp2_with fail
  clear ct0 ct1 ct2 ct3 ct4 ct5 ct6 ct7 ct8 ct9 ct10 lt
  (with_reducible refine (check15 mo ra ki co st en ms bk lg eo ro 0 _ (H.factsT (by repeat (first | with_reducible exact List.mem_cons_self | with_reducible apply List.mem_cons_of_mem))) ha.out).mono ?_)
  rintro e w2 ⟨rfl, hb⟩
  replace H := H.below hb
  clear hb
  have ct0 := H.cell (w.heap.size + 1) 0 (.int .i64 mo) (by repeat (first | with_reducible exact List.mem_cons_self | with_reducible apply List.mem_cons_of_mem))
  have ct1 := H.cell (w.heap.size + 1) 1 (.int .i64 ra) (by repeat (first | with_reducible exact List.mem_cons_self | with_reducible apply List.mem_cons_of_mem))
  have ct2 := H.cell (w.heap.size + 1) 2 (.int .i64 ki) (by repeat (first | with_reducible exact List.mem_cons_self | with_reducible apply List.mem_cons_of_mem))
  have ct3 := H.cell (w.heap.size + 1) 3 (.int .i64 co) (by repeat (first | with_reducible exact List.mem_cons_self | with_reducible apply List.mem_cons_of_mem))
  have ct4 := H.cell (w.heap.size + 1) 4 (.int .i64 st) (by repeat (first | with_reducible exact List.mem_cons_self | with_reducible apply List.mem_cons_of_mem))
  have ct5 := H.cell (w.heap.size + 1) 5 (.int .i64 en) (by repeat (first | with_reducible exact List.mem_cons_self | with_reducible apply List.mem_cons_of_mem))
  have ct6 := H.cell (w.heap.size + 1) 6 (.int .i64 ms) (by repeat (first | with_reducible exact List.mem_cons_self | with_reducible apply List.mem_cons_of_mem))
  have ct7 := H.cell (w.heap.size + 1) 7 (.bool bk) (by repeat (first | with_reducible exact List.mem_cons_self | with_reducible apply List.mem_cons_of_mem))
  have ct8 := H.cell (w.heap.size + 1) 8 (.bool lg) (by repeat (first | with_reducible exact List.mem_cons_self | with_reducible apply List.mem_cons_of_mem))
  have ct9 := H.cell (w.heap.size + 1) 9 (.bool eo) (by repeat (first | with_reducible exact List.mem_cons_self | with_reducible apply List.mem_cons_of_mem))
  have ct10 := H.cell (w.heap.size + 1) 10 (.int .i64 ro) (by repeat (first | with_reducible exact List.mem_cons_self | with_reducible apply List.mem_cons_of_mem))
  have lt := cell_lt ct0
  go_wp2_with fail
  clear ct0 ct1 ct2 ct3 ct4 ct5 ct6 ct7 ct8 ct9 ct10 lt
  replace H := H.box_11 (w2.heap.size) (.int .i64 mo) (.int .i64 ra) (.int .i64 ki) (.int .i64 co) (.int .i64 st) (.int .i64 en) (.int .i64 ms) (.bool x) (.bool y) (.bool z) (.int .i64 ro) 23 rfl
  (with_reducible refine (check15 mo ra ki co st en ms x y z ro 0 _ (H.factsT (by repeat (first | with_reducible exact List.mem_cons_self | with_reducible apply List.mem_cons_of_mem))) hb.out).mono ?_)
  rintro e w3 ⟨rfl, hb⟩
  replace H := H.below hb
  clear hb
  have ct0 := H.cell (w.heap.size + 1) 0 (.int .i64 mo) (by repeat (first | with_reducible exact List.mem_cons_self | with_reducible apply List.mem_cons_of_mem))
  have ct1 := H.cell (w.heap.size + 1) 1 (.int .i64 ra) (by repeat (first | with_reducible exact List.mem_cons_self | with_reducible apply List.mem_cons_of_mem))
  have ct2 := H.cell (w.heap.size + 1) 2 (.int .i64 ki) (by repeat (first | with_reducible exact List.mem_cons_self | with_reducible apply List.mem_cons_of_mem))
  have ct3 := H.cell (w.heap.size + 1) 3 (.int .i64 co) (by repeat (first | with_reducible exact List.mem_cons_self | with_reducible apply List.mem_cons_of_mem))
  have ct4 := H.cell (w.heap.size + 1) 4 (.int .i64 st) (by repeat (first | with_reducible exact List.mem_cons_self | with_reducible apply List.mem_cons_of_mem))
  have ct5 := H.cell (w.heap.size + 1) 5 (.int .i64 en) (by repeat (first | with_reducible exact List.mem_cons_self | with_reducible apply List.mem_cons_of_mem))
  have ct6 := H.cell (w.heap.size + 1) 6 (.int .i64 ms) (by repeat (first | with_reducible exact List.mem_cons_self | with_reducible apply List.mem_cons_of_mem))
  have ct7 := H.cell (w.heap.size + 1) 7 (.bool bk) (by repeat (first | with_reducible exact List.mem_cons_self | with_reducible apply List.mem_cons_of_mem))
  have ct8 := H.cell (w.heap.size + 1) 8 (.bool lg) (by repeat (first | with_reducible exact List.mem_cons_self | with_reducible apply List.mem_cons_of_mem))
  have ct9 := H.cell (w.heap.size + 1) 9 (.bool eo) (by repeat (first | with_reducible exact List.mem_cons_self | with_reducible apply List.mem_cons_of_mem))
  have ct10 := H.cell (w.heap.size + 1) 10 (.int .i64 ro) (by repeat (first | with_reducible exact List.mem_cons_self | with_reducible apply List.mem_cons_of_mem))
  have lt := cell_lt ct0
  repeat' (first | simp only [List.append_eq, List.cons_append, List.nil_append] | go_values | go_skip | go_guarded | go_step | go_upon)
  all_goals (go_ret; exact ⟨rfl, (H.alloc _).old⟩)

set_option maxHeartbeats 4000000 in
set_option maxRecDepth 100000 in
theorem tefree_in (mo ra ki co st en ms : Int) (bk lg eo : Bool) (ro : Int) (x y z : Bool) (m r : Int) (w : World) (hL : FactsT w) (ha : (Tm.mk mo ra ki co st en ms bk lg eo ro).code = 0) (hb : (Tm.mk mo ra ki co st en ms x y z ro).code = 0) (e1 : decide (m < 1) = false) (e2 : decide (m > mo) = false) (e3 : decide (r < 0) = false) (e4 : decide (r > ra) = false) (hc : (Tm.mk m r ki co st en ms bk lg eo ro).code = 0) : Calls Tryz.prog 4 #[.agg #[.int .i64 mo, .int .i64 ra, .int .i64 ki, .int .i64 co, .int .i64 st, .int .i64 en, .int .i64 ms, .bool bk, .bool lg, .bool eo, .int .i64 ro, .bool x, .bool y, .bool z, .int .i64 m, .int .i64 r]] w fun e w' => e = .returned (.bool true) ∧ Below w.heap.size w w' := by
  have H := (Held.start w).add (f := factsTF) hL
  clear hL
  replace ha := Lib.hid ha
  replace hb := Lib.hid hb
  replace hc := Lib.hid hc
  go_enter Tryz.func4, Tryz.ntmps4
  go_wp2_with fail
  replace H := H.box_16 (w.heap.size) (.int .i64 mo) (.int .i64 ra) (.int .i64 ki) (.int .i64 co) (.int .i64 st) (.int .i64 en) (.int .i64 ms) (.bool bk) (.bool lg) (.bool eo) (.int .i64 ro) (.bool x) (.bool y) (.bool z) (.int .i64 m) (.int .i64 r) 36 rfl
  replace H := H.box_11 (w.heap.size + 1) (.int .i64 mo) (.int .i64 ra) (.int .i64 ki) (.int .i64 co) (.int .i64 st) (.int .i64 en) (.int .i64 ms) (.bool bk) (.bool lg) (.bool eo) (.int .i64 ro) 23 (by simp)
  (with_reducible refine (teshown_any _ (H.factsT (by repeat (first | with_reducible exact List.mem_cons_self | with_reducible apply List.mem_cons_of_mem)))).mono ?_)
  rintro e w1 ⟨rfl, hb⟩
  replace H := H.below hb
  clear hb
  have ct0 := H.cell (w.heap.size + 1) 0 (.int .i64 mo) (by repeat (first | with_reducible exact List.mem_cons_self | with_reducible apply List.mem_cons_of_mem))
  have ct1 := H.cell (w.heap.size + 1) 1 (.int .i64 ra) (by repeat (first | with_reducible exact List.mem_cons_self | with_reducible apply List.mem_cons_of_mem))
  have ct2 := H.cell (w.heap.size + 1) 2 (.int .i64 ki) (by repeat (first | with_reducible exact List.mem_cons_self | with_reducible apply List.mem_cons_of_mem))
  have ct3 := H.cell (w.heap.size + 1) 3 (.int .i64 co) (by repeat (first | with_reducible exact List.mem_cons_self | with_reducible apply List.mem_cons_of_mem))
  have ct4 := H.cell (w.heap.size + 1) 4 (.int .i64 st) (by repeat (first | with_reducible exact List.mem_cons_self | with_reducible apply List.mem_cons_of_mem))
  have ct5 := H.cell (w.heap.size + 1) 5 (.int .i64 en) (by repeat (first | with_reducible exact List.mem_cons_self | with_reducible apply List.mem_cons_of_mem))
  have ct6 := H.cell (w.heap.size + 1) 6 (.int .i64 ms) (by repeat (first | with_reducible exact List.mem_cons_self | with_reducible apply List.mem_cons_of_mem))
  have ct7 := H.cell (w.heap.size + 1) 7 (.bool bk) (by repeat (first | with_reducible exact List.mem_cons_self | with_reducible apply List.mem_cons_of_mem))
  have ct8 := H.cell (w.heap.size + 1) 8 (.bool lg) (by repeat (first | with_reducible exact List.mem_cons_self | with_reducible apply List.mem_cons_of_mem))
  have ct9 := H.cell (w.heap.size + 1) 9 (.bool eo) (by repeat (first | with_reducible exact List.mem_cons_self | with_reducible apply List.mem_cons_of_mem))
  have ct10 := H.cell (w.heap.size + 1) 10 (.int .i64 ro) (by repeat (first | with_reducible exact List.mem_cons_self | with_reducible apply List.mem_cons_of_mem))
  have lt := cell_lt ct0
  go_wp2_with fail
  clear ct0 ct1 ct2 ct3 ct4 ct5 ct6 ct7 ct8 ct9 ct10 lt
  (with_reducible refine (check15 mo ra ki co st en ms bk lg eo ro 0 _ (H.factsT (by repeat (first | with_reducible exact List.mem_cons_self | with_reducible apply List.mem_cons_of_mem))) ha.out).mono ?_)
  rintro e w2 ⟨rfl, hb⟩
  replace H := H.below hb
  clear hb
  have ct0 := H.cell (w.heap.size + 1) 0 (.int .i64 mo) (by repeat (first | with_reducible exact List.mem_cons_self | with_reducible apply List.mem_cons_of_mem))
  have ct1 := H.cell (w.heap.size + 1) 1 (.int .i64 ra) (by repeat (first | with_reducible exact List.mem_cons_self | with_reducible apply List.mem_cons_of_mem))
  have ct2 := H.cell (w.heap.size + 1) 2 (.int .i64 ki) (by repeat (first | with_reducible exact List.mem_cons_self | with_reducible apply List.mem_cons_of_mem))
  have ct3 := H.cell (w.heap.size + 1) 3 (.int .i64 co) (by repeat (first | with_reducible exact List.mem_cons_self | with_reducible apply List.mem_cons_of_mem))
  have ct4 := H.cell (w.heap.size + 1) 4 (.int .i64 st) (by repeat (first | with_reducible exact List.mem_cons_self | with_reducible apply List.mem_cons_of_mem))
  have ct5 := H.cell (w.heap.size + 1) 5 (.int .i64 en) (by repeat (first | with_reducible exact List.mem_cons_self | with_reducible apply List.mem_cons_of_mem))
  have ct6 := H.cell (w.heap.size + 1) 6 (.int .i64 ms) (by repeat (first | with_reducible exact List.mem_cons_self | with_reducible apply List.mem_cons_of_mem))
  have ct7 := H.cell (w.heap.size + 1) 7 (.bool bk) (by repeat (first | with_reducible exact List.mem_cons_self | with_reducible apply List.mem_cons_of_mem))
  have ct8 := H.cell (w.heap.size + 1) 8 (.bool lg) (by repeat (first | with_reducible exact List.mem_cons_self | with_reducible apply List.mem_cons_of_mem))
  have ct9 := H.cell (w.heap.size + 1) 9 (.bool eo) (by repeat (first | with_reducible exact List.mem_cons_self | with_reducible apply List.mem_cons_of_mem))
  have ct10 := H.cell (w.heap.size + 1) 10 (.int .i64 ro) (by repeat (first | with_reducible exact List.mem_cons_self | with_reducible apply List.mem_cons_of_mem))
  have lt := cell_lt ct0
  go_wp2_with fail
  clear ct0 ct1 ct2 ct3 ct4 ct5 ct6 ct7 ct8 ct9 ct10 lt
  replace H := H.box_11 (w2.heap.size) (.int .i64 mo) (.int .i64 ra) (.int .i64 ki) (.int .i64 co) (.int .i64 st) (.int .i64 en) (.int .i64 ms) (.bool x) (.bool y) (.bool z) (.int .i64 ro) 23 rfl
  (with_reducible refine (check15 mo ra ki co st en ms x y z ro 0 _ (H.factsT (by repeat (first | with_reducible exact List.mem_cons_self | with_reducible apply List.mem_cons_of_mem))) hb.out).mono ?_)
  rintro e w3 ⟨rfl, hb⟩
  replace H := H.below hb
  clear hb
  have ct0 := H.cell (w.heap.size + 1) 0 (.int .i64 mo) (by repeat (first | with_reducible exact List.mem_cons_self | with_reducible apply List.mem_cons_of_mem))
  have ct1 := H.cell (w.heap.size + 1) 1 (.int .i64 ra) (by repeat (first | with_reducible exact List.mem_cons_self | with_reducible apply List.mem_cons_of_mem))
  have ct2 := H.cell (w.heap.size + 1) 2 (.int .i64 ki) (by repeat (first | with_reducible exact List.mem_cons_self | with_reducible apply List.mem_cons_of_mem))
  have ct3 := H.cell (w.heap.size + 1) 3 (.int .i64 co) (by repeat (first | with_reducible exact List.mem_cons_self | with_reducible apply List.mem_cons_of_mem))
  have ct4 := H.cell (w.heap.size + 1) 4 (.int .i64 st) (by repeat (first | with_reducible exact List.mem_cons_self | with_reducible apply List.mem_cons_of_mem))
  have ct5 := H.cell (w.heap.size + 1) 5 (.int .i64 en) (by repeat (first | with_reducible exact List.mem_cons_self | with_reducible apply List.mem_cons_of_mem))
  have ct6 := H.cell (w.heap.size + 1) 6 (.int .i64 ms) (by repeat (first | with_reducible exact List.mem_cons_self | with_reducible apply List.mem_cons_of_mem))
  have ct7 := H.cell (w.heap.size + 1) 7 (.bool bk) (by repeat (first | with_reducible exact List.mem_cons_self | with_reducible apply List.mem_cons_of_mem))
  have ct8 := H.cell (w.heap.size + 1) 8 (.bool lg) (by repeat (first | with_reducible exact List.mem_cons_self | with_reducible apply List.mem_cons_of_mem))
  have ct9 := H.cell (w.heap.size + 1) 9 (.bool eo) (by repeat (first | with_reducible exact List.mem_cons_self | with_reducible apply List.mem_cons_of_mem))
  have ct10 := H.cell (w.heap.size + 1) 10 (.int .i64 ro) (by repeat (first | with_reducible exact List.mem_cons_self | with_reducible apply List.mem_cons_of_mem))
  have lt := cell_lt ct0
  repeat' (first | simp only [List.append_eq, List.cons_append, List.nil_append] | go_values | go_skip | go_guarded | go_step | go_upon)
  clear ct0 ct1 ct2 ct3 ct4 ct5 ct6 ct7 ct8 ct9 ct10 lt
  replace H := H.box_11 (w3.heap.size) (.int .i64 m) (.int .i64 r) (.int .i64 ki) (.int .i64 co) (.int .i64 st) (.int .i64 en) (.int .i64 ms) (.bool bk) (.bool lg) (.bool eo) (.int .i64 ro) 23 rfl
  (with_reducible refine (check15 m r ki co st en ms bk lg eo ro 0 _ (H.factsT (by repeat (first | with_reducible exact List.mem_cons_self | with_reducible apply List.mem_cons_of_mem))) hc.out).mono ?_)
  rintro e w4 ⟨rfl, hb⟩
  replace H := H.below hb
  clear hb
  repeat' (first | simp only [List.append_eq, List.cons_append, List.nil_append] | go_values | go_skip | go_guarded | go_step | go_upon)
  go_ret
  exact ⟨rfl, H.old⟩

theorem free_code (mo ra ki co st en ms : Int) (bk lg eo : Bool) (ro : Int) (x y z : Bool) (m r : Int) : (Tm.mk mo ra ki co st en ms x y z ro).code = (Tm.mk mo ra ki co st en ms bk lg eo ro).code := rfl
theorem less_code (mo ra ki co st en ms : Int) (bk lg eo : Bool) (ro : Int) (x y z : Bool) (m r : Int) (h : (Tm.mk mo ra ki co st en ms bk lg eo ro).code = 0) (h1 : 1 ≤ m) (h2 : m ≤ mo) (h3 : 0 ≤ r) (h4 : r ≤ ra) : (Tm.mk m r ki co st en ms bk lg eo ro).code = 0 := by
  obtain ⟨hF, hD, hT, hO, hB⟩ := Tm.of_zero h
  refine Tm.may hF hD hT ⟨⟨h1, Int.le_trans h2 hO.1.2⟩, ⟨h3, Int.le_trans h4 hO.2.2⟩⟩ ?_
  exact Int.le_trans (Int.mul_le_mul h2 h4 h3 (Int.le_trans (by omega) (Int.le_trans h1 h2))) hB
theorem tefree_walk (mo ra ki co st en ms : Int) (bk lg eo : Bool) (ro : Int) (x y z : Bool) (m r : Int) (w : World) (hL : FactsT w) :
    Calls Tryz.prog 4 #[.agg #[.int .i64 mo, .int .i64 ra, .int .i64 ki, .int .i64 co, .int .i64 st, .int .i64 en, .int .i64 ms, .bool bk, .bool lg, .bool eo, .int .i64 ro, .bool x, .bool y, .bool z, .int .i64 m, .int .i64 r]] w fun e w' => e = .returned (.bool true) ∧ Below w.heap.size w w' := by
  by_cases h0 : (Tm.mk mo ra ki co st en ms bk lg eo ro).code = 0
  · by_cases h1 : m < 1
    · exact tefree_m0 mo ra ki co st en ms bk lg eo ro x y z m r w hL h0 h0 (decide_eq_true h1)
    by_cases h2 : m > mo
    · exact tefree_m1 mo ra ki co st en ms bk lg eo ro x y z m r w hL h0 h0 (decide_eq_false h1) (decide_eq_true h2)
    by_cases h3 : r < 0
    · exact tefree_r0 mo ra ki co st en ms bk lg eo ro x y z m r w hL h0 h0 (decide_eq_false h1) (decide_eq_false h2) (decide_eq_true h3)
    by_cases h4 : r > ra
    · exact tefree_r1 mo ra ki co st en ms bk lg eo ro x y z m r w hL h0 h0 (decide_eq_false h1) (decide_eq_false h2) (decide_eq_false h3) (decide_eq_true h4)
    exact tefree_in mo ra ki co st en ms bk lg eo ro x y z m r w hL h0 h0 (decide_eq_false h1) (decide_eq_false h2) (decide_eq_false h3) (decide_eq_false h4) (less_code mo ra ki co st en ms bk lg eo ro x y z m r h0 (by omega) (by omega) (by omega) (by omega))
  · exact tefree_bad mo ra ki co st en ms bk lg eo ro x y z m r _ w hL rfl (free_code mo ra ki co st en ms bk lg eo ro x y z m r) (beq_eq_false_iff_ne.2 h0)
end Go.Proofs.YtmaioofcmgaakaaGreatDoor
