/- DatesGrid: steps rise, hold the loan, and are all its days but the ends. -/
import Derived.Test.YtjijgcgbnmobfaaGreatDoorDaGridNum
import Derived.Test.YtjijgcgbnmobfaaGreatDoorDaDays
namespace Go.Proofs.YtjijgcgbnmobfaaGreatDoor
open Go.RowKit
set_option linter.unusedVariables false
set_option linter.unusedSimpArgs false

theorem dgrid_no (mo ra ki co st en ms : Int) (bk lg eo : Bool) (ro : Int) (z : Int) (w : World) (hL : FactsT w) (hc : (Tm.mk mo ra ki co st en ms bk lg eo ro).code = z) (h0 : z ≠ 0) : Calls Tryz.prog 6 #[.agg #[.int .i64 mo, .int .i64 ra, .int .i64 ki, .int .i64 co, .int .i64 st, .int .i64 en, .int .i64 ms, .bool bk, .bool lg, .bool eo, .int .i64 ro]] w fun e w' => e = .returned (.bool true) ∧ Below w.heap.size w w' := by
  have H := (Held.start w).add (f := factsTF) hL
  have CK := Lib.hid (fun v => rcheck15 mo ra ki co st en ms bk lg eo ro z v hc)
  have CN : Hid ((z != 0) = true) := Lib.hid (by simpa using h0)
  have CE : Hid ((z == 0) = false) := Lib.hid (by simpa using h0)
  clear hc
  clear hL
  go_enter Tryz.func6, Tryz.ntmps6
  go_wp2_with fail
  replace H := H.box_11 (w.heap.size) (.int .i64 mo) (.int .i64 ra) (.int .i64 ki) (.int .i64 co) (.int .i64 st) (.int .i64 en) (.int .i64 ms) (.bool bk) (.bool lg) (.bool eo) (.int .i64 ro) 23 rfl
  (with_reducible refine (dshown_any _ (H.factsT (by repeat (first | with_reducible exact List.mem_cons_self | with_reducible apply List.mem_cons_of_mem)))).mono ?_)
  rintro e w1 ⟨rfl, hb⟩
  replace H := H.below hb
  clear hb
  have ct0 := H.cell (w.heap.size) 0 (.int .i64 mo) (by repeat (first | with_reducible exact List.mem_cons_self | with_reducible apply List.mem_cons_of_mem))
  have ct1 := H.cell (w.heap.size) 1 (.int .i64 ra) (by repeat (first | with_reducible exact List.mem_cons_self | with_reducible apply List.mem_cons_of_mem))
  have ct2 := H.cell (w.heap.size) 2 (.int .i64 ki) (by repeat (first | with_reducible exact List.mem_cons_self | with_reducible apply List.mem_cons_of_mem))
  have ct3 := H.cell (w.heap.size) 3 (.int .i64 co) (by repeat (first | with_reducible exact List.mem_cons_self | with_reducible apply List.mem_cons_of_mem))
  have ct4 := H.cell (w.heap.size) 4 (.int .i64 st) (by repeat (first | with_reducible exact List.mem_cons_self | with_reducible apply List.mem_cons_of_mem))
  have ct5 := H.cell (w.heap.size) 5 (.int .i64 en) (by repeat (first | with_reducible exact List.mem_cons_self | with_reducible apply List.mem_cons_of_mem))
  have ct6 := H.cell (w.heap.size) 6 (.int .i64 ms) (by repeat (first | with_reducible exact List.mem_cons_self | with_reducible apply List.mem_cons_of_mem))
  have ct7 := H.cell (w.heap.size) 7 (.bool bk) (by repeat (first | with_reducible exact List.mem_cons_self | with_reducible apply List.mem_cons_of_mem))
  have ct8 := H.cell (w.heap.size) 8 (.bool lg) (by repeat (first | with_reducible exact List.mem_cons_self | with_reducible apply List.mem_cons_of_mem))
  have ct9 := H.cell (w.heap.size) 9 (.bool eo) (by repeat (first | with_reducible exact List.mem_cons_self | with_reducible apply List.mem_cons_of_mem))
  have ct10 := H.cell (w.heap.size) 10 (.int .i64 ro) (by repeat (first | with_reducible exact List.mem_cons_self | with_reducible apply List.mem_cons_of_mem))
  have lt := cell_lt ct0
  go_wp2_with fail
  clear ct0 ct1 ct2 ct3 ct4 ct5 ct6 ct7 ct8 ct9 ct10 lt
  (with_reducible refine (CK.out _).mono ?_)
  rintro e w2 ⟨rfl, hb⟩
  replace H := H.below hb
  clear hb
  have cn := CN.out
  have ce := CE.out
  go_wp2
  go_ret
  exact ⟨rfl, H.old⟩
theorem dgrid_far (mo ra ki co st en ms : Int) (bk lg eo : Bool) (ro : Int) (w : World) (hL : FactsT w) (hc : (Tm.mk mo ra ki co st en ms bk lg eo ro).code = 0) (hs : 6200 < en - st) : Calls Tryz.prog 6 #[.agg #[.int .i64 mo, .int .i64 ra, .int .i64 ki, .int .i64 co, .int .i64 st, .int .i64 en, .int .i64 ms, .bool bk, .bool lg, .bool eo, .int .i64 ro]] w fun e w' => e = .returned (.bool true) ∧ Below w.heap.size w w' := by
  have H := (Held.start w).add (f := factsTF) hL
  have CK := Lib.hid (fun v => rcheck15 mo ra ki co st en ms bk lg eo ro 0 v hc)
  obtain ⟨hf, hd, ho, -, -⟩ := Tm.of_zero hc
  have SHT := Lib.hid (fun v => short_any mo ra ki co st en ms bk lg eo ro 200 false v hd.1 hd.2 ho (by omega) (decide_eq_false (by omega)))
  clear hc hf hd ho hs
  clear hL
  go_enter Tryz.func6, Tryz.ntmps6
  go_wp2_with fail
  replace H := H.box_11 (w.heap.size) (.int .i64 mo) (.int .i64 ra) (.int .i64 ki) (.int .i64 co) (.int .i64 st) (.int .i64 en) (.int .i64 ms) (.bool bk) (.bool lg) (.bool eo) (.int .i64 ro) 23 rfl
  (with_reducible refine (dshown_any _ (H.factsT (by repeat (first | with_reducible exact List.mem_cons_self | with_reducible apply List.mem_cons_of_mem)))).mono ?_)
  rintro e w1 ⟨rfl, hb⟩
  replace H := H.below hb
  clear hb
  have ct0 := H.cell (w.heap.size) 0 (.int .i64 mo) (by repeat (first | with_reducible exact List.mem_cons_self | with_reducible apply List.mem_cons_of_mem))
  have ct1 := H.cell (w.heap.size) 1 (.int .i64 ra) (by repeat (first | with_reducible exact List.mem_cons_self | with_reducible apply List.mem_cons_of_mem))
  have ct2 := H.cell (w.heap.size) 2 (.int .i64 ki) (by repeat (first | with_reducible exact List.mem_cons_self | with_reducible apply List.mem_cons_of_mem))
  have ct3 := H.cell (w.heap.size) 3 (.int .i64 co) (by repeat (first | with_reducible exact List.mem_cons_self | with_reducible apply List.mem_cons_of_mem))
  have ct4 := H.cell (w.heap.size) 4 (.int .i64 st) (by repeat (first | with_reducible exact List.mem_cons_self | with_reducible apply List.mem_cons_of_mem))
  have ct5 := H.cell (w.heap.size) 5 (.int .i64 en) (by repeat (first | with_reducible exact List.mem_cons_self | with_reducible apply List.mem_cons_of_mem))
  have ct6 := H.cell (w.heap.size) 6 (.int .i64 ms) (by repeat (first | with_reducible exact List.mem_cons_self | with_reducible apply List.mem_cons_of_mem))
  have ct7 := H.cell (w.heap.size) 7 (.bool bk) (by repeat (first | with_reducible exact List.mem_cons_self | with_reducible apply List.mem_cons_of_mem))
  have ct8 := H.cell (w.heap.size) 8 (.bool lg) (by repeat (first | with_reducible exact List.mem_cons_self | with_reducible apply List.mem_cons_of_mem))
  have ct9 := H.cell (w.heap.size) 9 (.bool eo) (by repeat (first | with_reducible exact List.mem_cons_self | with_reducible apply List.mem_cons_of_mem))
  have ct10 := H.cell (w.heap.size) 10 (.int .i64 ro) (by repeat (first | with_reducible exact List.mem_cons_self | with_reducible apply List.mem_cons_of_mem))
  have lt := cell_lt ct0
  go_wp2_with fail
  clear ct0 ct1 ct2 ct3 ct4 ct5 ct6 ct7 ct8 ct9 ct10 lt
  (with_reducible refine (CK.out _).mono ?_)
  rintro e w2 ⟨rfl, hb⟩
  replace H := H.below hb
  clear hb
  have ct0 := H.cell (w.heap.size) 0 (.int .i64 mo) (by repeat (first | with_reducible exact List.mem_cons_self | with_reducible apply List.mem_cons_of_mem))
  have ct1 := H.cell (w.heap.size) 1 (.int .i64 ra) (by repeat (first | with_reducible exact List.mem_cons_self | with_reducible apply List.mem_cons_of_mem))
  have ct2 := H.cell (w.heap.size) 2 (.int .i64 ki) (by repeat (first | with_reducible exact List.mem_cons_self | with_reducible apply List.mem_cons_of_mem))
  have ct3 := H.cell (w.heap.size) 3 (.int .i64 co) (by repeat (first | with_reducible exact List.mem_cons_self | with_reducible apply List.mem_cons_of_mem))
  have ct4 := H.cell (w.heap.size) 4 (.int .i64 st) (by repeat (first | with_reducible exact List.mem_cons_self | with_reducible apply List.mem_cons_of_mem))
  have ct5 := H.cell (w.heap.size) 5 (.int .i64 en) (by repeat (first | with_reducible exact List.mem_cons_self | with_reducible apply List.mem_cons_of_mem))
  have ct6 := H.cell (w.heap.size) 6 (.int .i64 ms) (by repeat (first | with_reducible exact List.mem_cons_self | with_reducible apply List.mem_cons_of_mem))
  have ct7 := H.cell (w.heap.size) 7 (.bool bk) (by repeat (first | with_reducible exact List.mem_cons_self | with_reducible apply List.mem_cons_of_mem))
  have ct8 := H.cell (w.heap.size) 8 (.bool lg) (by repeat (first | with_reducible exact List.mem_cons_self | with_reducible apply List.mem_cons_of_mem))
  have ct9 := H.cell (w.heap.size) 9 (.bool eo) (by repeat (first | with_reducible exact List.mem_cons_self | with_reducible apply List.mem_cons_of_mem))
  have ct10 := H.cell (w.heap.size) 10 (.int .i64 ro) (by repeat (first | with_reducible exact List.mem_cons_self | with_reducible apply List.mem_cons_of_mem))
  have lt := cell_lt ct0
  go_wp2_with fail
  clear ct0 ct1 ct2 ct3 ct4 ct5 ct6 ct7 ct8 ct9 ct10 lt
  (with_reducible refine (SHT.out _).mono ?_)
  rintro e w3 ⟨rfl, hb⟩
  replace H := H.below hb
  clear hb
  go_wp2
  go_ret
  exact ⟨rfl, H.old⟩
theorem dgrid_early (mo ra ki co st en ms : Int) (bk lg eo : Bool) (ro : Int) (w : World) (hL : FactsT w) (hc : (Tm.mk mo ra ki co st en ms bk lg eo ro).code = 0) (hs : en - st ≤ 6200) (h1 : st < 366) : Calls Tryz.prog 6 #[.agg #[.int .i64 mo, .int .i64 ra, .int .i64 ki, .int .i64 co, .int .i64 st, .int .i64 en, .int .i64 ms, .bool bk, .bool lg, .bool eo, .int .i64 ro]] w fun e w' => e = .returned (.bool true) ∧ Below w.heap.size w w' := by
  have H := (Held.start w).add (f := factsTF) hL
  have CK := Lib.hid (fun v => rcheck15 mo ra ki co st en ms bk lg eo ro 0 v hc)
  obtain ⟨hf, hd, ho, -, -⟩ := Tm.of_zero hc
  have SHT := Lib.hid (fun v => short_any mo ra ki co st en ms bk lg eo ro 200 true v hd.1 hd.2 ho (by omega) (decide_eq_true (by omega)))
  clear hc hf hd ho hs
  clear hL
  go_enter Tryz.func6, Tryz.ntmps6
  go_wp2_with fail
  replace H := H.box_11 (w.heap.size) (.int .i64 mo) (.int .i64 ra) (.int .i64 ki) (.int .i64 co) (.int .i64 st) (.int .i64 en) (.int .i64 ms) (.bool bk) (.bool lg) (.bool eo) (.int .i64 ro) 23 rfl
  (with_reducible refine (dshown_any _ (H.factsT (by repeat (first | with_reducible exact List.mem_cons_self | with_reducible apply List.mem_cons_of_mem)))).mono ?_)
  rintro e w1 ⟨rfl, hb⟩
  replace H := H.below hb
  clear hb
  have ct0 := H.cell (w.heap.size) 0 (.int .i64 mo) (by repeat (first | with_reducible exact List.mem_cons_self | with_reducible apply List.mem_cons_of_mem))
  have ct1 := H.cell (w.heap.size) 1 (.int .i64 ra) (by repeat (first | with_reducible exact List.mem_cons_self | with_reducible apply List.mem_cons_of_mem))
  have ct2 := H.cell (w.heap.size) 2 (.int .i64 ki) (by repeat (first | with_reducible exact List.mem_cons_self | with_reducible apply List.mem_cons_of_mem))
  have ct3 := H.cell (w.heap.size) 3 (.int .i64 co) (by repeat (first | with_reducible exact List.mem_cons_self | with_reducible apply List.mem_cons_of_mem))
  have ct4 := H.cell (w.heap.size) 4 (.int .i64 st) (by repeat (first | with_reducible exact List.mem_cons_self | with_reducible apply List.mem_cons_of_mem))
  have ct5 := H.cell (w.heap.size) 5 (.int .i64 en) (by repeat (first | with_reducible exact List.mem_cons_self | with_reducible apply List.mem_cons_of_mem))
  have ct6 := H.cell (w.heap.size) 6 (.int .i64 ms) (by repeat (first | with_reducible exact List.mem_cons_self | with_reducible apply List.mem_cons_of_mem))
  have ct7 := H.cell (w.heap.size) 7 (.bool bk) (by repeat (first | with_reducible exact List.mem_cons_self | with_reducible apply List.mem_cons_of_mem))
  have ct8 := H.cell (w.heap.size) 8 (.bool lg) (by repeat (first | with_reducible exact List.mem_cons_self | with_reducible apply List.mem_cons_of_mem))
  have ct9 := H.cell (w.heap.size) 9 (.bool eo) (by repeat (first | with_reducible exact List.mem_cons_self | with_reducible apply List.mem_cons_of_mem))
  have ct10 := H.cell (w.heap.size) 10 (.int .i64 ro) (by repeat (first | with_reducible exact List.mem_cons_self | with_reducible apply List.mem_cons_of_mem))
  have lt := cell_lt ct0
  go_wp2_with fail
  clear ct0 ct1 ct2 ct3 ct4 ct5 ct6 ct7 ct8 ct9 ct10 lt
  (with_reducible refine (CK.out _).mono ?_)
  rintro e w2 ⟨rfl, hb⟩
  replace H := H.below hb
  clear hb
  have ct0 := H.cell (w.heap.size) 0 (.int .i64 mo) (by repeat (first | with_reducible exact List.mem_cons_self | with_reducible apply List.mem_cons_of_mem))
  have ct1 := H.cell (w.heap.size) 1 (.int .i64 ra) (by repeat (first | with_reducible exact List.mem_cons_self | with_reducible apply List.mem_cons_of_mem))
  have ct2 := H.cell (w.heap.size) 2 (.int .i64 ki) (by repeat (first | with_reducible exact List.mem_cons_self | with_reducible apply List.mem_cons_of_mem))
  have ct3 := H.cell (w.heap.size) 3 (.int .i64 co) (by repeat (first | with_reducible exact List.mem_cons_self | with_reducible apply List.mem_cons_of_mem))
  have ct4 := H.cell (w.heap.size) 4 (.int .i64 st) (by repeat (first | with_reducible exact List.mem_cons_self | with_reducible apply List.mem_cons_of_mem))
  have ct5 := H.cell (w.heap.size) 5 (.int .i64 en) (by repeat (first | with_reducible exact List.mem_cons_self | with_reducible apply List.mem_cons_of_mem))
  have ct6 := H.cell (w.heap.size) 6 (.int .i64 ms) (by repeat (first | with_reducible exact List.mem_cons_self | with_reducible apply List.mem_cons_of_mem))
  have ct7 := H.cell (w.heap.size) 7 (.bool bk) (by repeat (first | with_reducible exact List.mem_cons_self | with_reducible apply List.mem_cons_of_mem))
  have ct8 := H.cell (w.heap.size) 8 (.bool lg) (by repeat (first | with_reducible exact List.mem_cons_self | with_reducible apply List.mem_cons_of_mem))
  have ct9 := H.cell (w.heap.size) 9 (.bool eo) (by repeat (first | with_reducible exact List.mem_cons_self | with_reducible apply List.mem_cons_of_mem))
  have ct10 := H.cell (w.heap.size) 10 (.int .i64 ro) (by repeat (first | with_reducible exact List.mem_cons_self | with_reducible apply List.mem_cons_of_mem))
  have lt := cell_lt ct0
  go_wp2_with fail
  clear ct0 ct1 ct2 ct3 ct4 ct5 ct6 ct7 ct8 ct9 ct10 lt
  (with_reducible refine (SHT.out _).mono ?_)
  rintro e w3 ⟨rfl, hb⟩
  replace H := H.below hb
  clear hb
  have ct0 := H.cell (w.heap.size) 0 (.int .i64 mo) (by repeat (first | with_reducible exact List.mem_cons_self | with_reducible apply List.mem_cons_of_mem))
  have ct1 := H.cell (w.heap.size) 1 (.int .i64 ra) (by repeat (first | with_reducible exact List.mem_cons_self | with_reducible apply List.mem_cons_of_mem))
  have ct2 := H.cell (w.heap.size) 2 (.int .i64 ki) (by repeat (first | with_reducible exact List.mem_cons_self | with_reducible apply List.mem_cons_of_mem))
  have ct3 := H.cell (w.heap.size) 3 (.int .i64 co) (by repeat (first | with_reducible exact List.mem_cons_self | with_reducible apply List.mem_cons_of_mem))
  have ct4 := H.cell (w.heap.size) 4 (.int .i64 st) (by repeat (first | with_reducible exact List.mem_cons_self | with_reducible apply List.mem_cons_of_mem))
  have ct5 := H.cell (w.heap.size) 5 (.int .i64 en) (by repeat (first | with_reducible exact List.mem_cons_self | with_reducible apply List.mem_cons_of_mem))
  have ct6 := H.cell (w.heap.size) 6 (.int .i64 ms) (by repeat (first | with_reducible exact List.mem_cons_self | with_reducible apply List.mem_cons_of_mem))
  have ct7 := H.cell (w.heap.size) 7 (.bool bk) (by repeat (first | with_reducible exact List.mem_cons_self | with_reducible apply List.mem_cons_of_mem))
  have ct8 := H.cell (w.heap.size) 8 (.bool lg) (by repeat (first | with_reducible exact List.mem_cons_self | with_reducible apply List.mem_cons_of_mem))
  have ct9 := H.cell (w.heap.size) 9 (.bool eo) (by repeat (first | with_reducible exact List.mem_cons_self | with_reducible apply List.mem_cons_of_mem))
  have ct10 := H.cell (w.heap.size) 10 (.int .i64 ro) (by repeat (first | with_reducible exact List.mem_cons_self | with_reducible apply List.mem_cons_of_mem))
  have lt := cell_lt ct0
  have t1 : decide (st < 366) = true := decide_eq_true h1
  go_wp2
  go_ret
  exact ⟨rfl, H.old⟩
theorem dgrid_late (mo ra ki co st en ms : Int) (bk lg eo : Bool) (ro : Int) (w : World) (hL : FactsT w) (hc : (Tm.mk mo ra ki co st en ms bk lg eo ro).code = 0) (hs : en - st ≤ 6200) (h1 : 366 ≤ st) (h2 : 3651000 < en) : Calls Tryz.prog 6 #[.agg #[.int .i64 mo, .int .i64 ra, .int .i64 ki, .int .i64 co, .int .i64 st, .int .i64 en, .int .i64 ms, .bool bk, .bool lg, .bool eo, .int .i64 ro]] w fun e w' => e = .returned (.bool true) ∧ Below w.heap.size w w' := by
  have H := (Held.start w).add (f := factsTF) hL
  have CK := Lib.hid (fun v => rcheck15 mo ra ki co st en ms bk lg eo ro 0 v hc)
  obtain ⟨hf, hd, ho, -, -⟩ := Tm.of_zero hc
  have SHT := Lib.hid (fun v => short_any mo ra ki co st en ms bk lg eo ro 200 true v hd.1 hd.2 ho (by omega) (decide_eq_true (by omega)))
  clear hc hf hd ho hs
  clear hL
  go_enter Tryz.func6, Tryz.ntmps6
  go_wp2_with fail
  replace H := H.box_11 (w.heap.size) (.int .i64 mo) (.int .i64 ra) (.int .i64 ki) (.int .i64 co) (.int .i64 st) (.int .i64 en) (.int .i64 ms) (.bool bk) (.bool lg) (.bool eo) (.int .i64 ro) 23 rfl
  (with_reducible refine (dshown_any _ (H.factsT (by repeat (first | with_reducible exact List.mem_cons_self | with_reducible apply List.mem_cons_of_mem)))).mono ?_)
  rintro e w1 ⟨rfl, hb⟩
  replace H := H.below hb
  clear hb
  have ct0 := H.cell (w.heap.size) 0 (.int .i64 mo) (by repeat (first | with_reducible exact List.mem_cons_self | with_reducible apply List.mem_cons_of_mem))
  have ct1 := H.cell (w.heap.size) 1 (.int .i64 ra) (by repeat (first | with_reducible exact List.mem_cons_self | with_reducible apply List.mem_cons_of_mem))
  have ct2 := H.cell (w.heap.size) 2 (.int .i64 ki) (by repeat (first | with_reducible exact List.mem_cons_self | with_reducible apply List.mem_cons_of_mem))
  have ct3 := H.cell (w.heap.size) 3 (.int .i64 co) (by repeat (first | with_reducible exact List.mem_cons_self | with_reducible apply List.mem_cons_of_mem))
  have ct4 := H.cell (w.heap.size) 4 (.int .i64 st) (by repeat (first | with_reducible exact List.mem_cons_self | with_reducible apply List.mem_cons_of_mem))
  have ct5 := H.cell (w.heap.size) 5 (.int .i64 en) (by repeat (first | with_reducible exact List.mem_cons_self | with_reducible apply List.mem_cons_of_mem))
  have ct6 := H.cell (w.heap.size) 6 (.int .i64 ms) (by repeat (first | with_reducible exact List.mem_cons_self | with_reducible apply List.mem_cons_of_mem))
  have ct7 := H.cell (w.heap.size) 7 (.bool bk) (by repeat (first | with_reducible exact List.mem_cons_self | with_reducible apply List.mem_cons_of_mem))
  have ct8 := H.cell (w.heap.size) 8 (.bool lg) (by repeat (first | with_reducible exact List.mem_cons_self | with_reducible apply List.mem_cons_of_mem))
  have ct9 := H.cell (w.heap.size) 9 (.bool eo) (by repeat (first | with_reducible exact List.mem_cons_self | with_reducible apply List.mem_cons_of_mem))
  have ct10 := H.cell (w.heap.size) 10 (.int .i64 ro) (by repeat (first | with_reducible exact List.mem_cons_self | with_reducible apply List.mem_cons_of_mem))
  have lt := cell_lt ct0
  go_wp2_with fail
  clear ct0 ct1 ct2 ct3 ct4 ct5 ct6 ct7 ct8 ct9 ct10 lt
  (with_reducible refine (CK.out _).mono ?_)
  rintro e w2 ⟨rfl, hb⟩
  replace H := H.below hb
  clear hb
  have ct0 := H.cell (w.heap.size) 0 (.int .i64 mo) (by repeat (first | with_reducible exact List.mem_cons_self | with_reducible apply List.mem_cons_of_mem))
  have ct1 := H.cell (w.heap.size) 1 (.int .i64 ra) (by repeat (first | with_reducible exact List.mem_cons_self | with_reducible apply List.mem_cons_of_mem))
  have ct2 := H.cell (w.heap.size) 2 (.int .i64 ki) (by repeat (first | with_reducible exact List.mem_cons_self | with_reducible apply List.mem_cons_of_mem))
  have ct3 := H.cell (w.heap.size) 3 (.int .i64 co) (by repeat (first | with_reducible exact List.mem_cons_self | with_reducible apply List.mem_cons_of_mem))
  have ct4 := H.cell (w.heap.size) 4 (.int .i64 st) (by repeat (first | with_reducible exact List.mem_cons_self | with_reducible apply List.mem_cons_of_mem))
  have ct5 := H.cell (w.heap.size) 5 (.int .i64 en) (by repeat (first | with_reducible exact List.mem_cons_self | with_reducible apply List.mem_cons_of_mem))
  have ct6 := H.cell (w.heap.size) 6 (.int .i64 ms) (by repeat (first | with_reducible exact List.mem_cons_self | with_reducible apply List.mem_cons_of_mem))
  have ct7 := H.cell (w.heap.size) 7 (.bool bk) (by repeat (first | with_reducible exact List.mem_cons_self | with_reducible apply List.mem_cons_of_mem))
  have ct8 := H.cell (w.heap.size) 8 (.bool lg) (by repeat (first | with_reducible exact List.mem_cons_self | with_reducible apply List.mem_cons_of_mem))
  have ct9 := H.cell (w.heap.size) 9 (.bool eo) (by repeat (first | with_reducible exact List.mem_cons_self | with_reducible apply List.mem_cons_of_mem))
  have ct10 := H.cell (w.heap.size) 10 (.int .i64 ro) (by repeat (first | with_reducible exact List.mem_cons_self | with_reducible apply List.mem_cons_of_mem))
  have lt := cell_lt ct0
  go_wp2_with fail
  clear ct0 ct1 ct2 ct3 ct4 ct5 ct6 ct7 ct8 ct9 ct10 lt
  (with_reducible refine (SHT.out _).mono ?_)
  rintro e w3 ⟨rfl, hb⟩
  replace H := H.below hb
  clear hb
  have ct0 := H.cell (w.heap.size) 0 (.int .i64 mo) (by repeat (first | with_reducible exact List.mem_cons_self | with_reducible apply List.mem_cons_of_mem))
  have ct1 := H.cell (w.heap.size) 1 (.int .i64 ra) (by repeat (first | with_reducible exact List.mem_cons_self | with_reducible apply List.mem_cons_of_mem))
  have ct2 := H.cell (w.heap.size) 2 (.int .i64 ki) (by repeat (first | with_reducible exact List.mem_cons_self | with_reducible apply List.mem_cons_of_mem))
  have ct3 := H.cell (w.heap.size) 3 (.int .i64 co) (by repeat (first | with_reducible exact List.mem_cons_self | with_reducible apply List.mem_cons_of_mem))
  have ct4 := H.cell (w.heap.size) 4 (.int .i64 st) (by repeat (first | with_reducible exact List.mem_cons_self | with_reducible apply List.mem_cons_of_mem))
  have ct5 := H.cell (w.heap.size) 5 (.int .i64 en) (by repeat (first | with_reducible exact List.mem_cons_self | with_reducible apply List.mem_cons_of_mem))
  have ct6 := H.cell (w.heap.size) 6 (.int .i64 ms) (by repeat (first | with_reducible exact List.mem_cons_self | with_reducible apply List.mem_cons_of_mem))
  have ct7 := H.cell (w.heap.size) 7 (.bool bk) (by repeat (first | with_reducible exact List.mem_cons_self | with_reducible apply List.mem_cons_of_mem))
  have ct8 := H.cell (w.heap.size) 8 (.bool lg) (by repeat (first | with_reducible exact List.mem_cons_self | with_reducible apply List.mem_cons_of_mem))
  have ct9 := H.cell (w.heap.size) 9 (.bool eo) (by repeat (first | with_reducible exact List.mem_cons_self | with_reducible apply List.mem_cons_of_mem))
  have ct10 := H.cell (w.heap.size) 10 (.int .i64 ro) (by repeat (first | with_reducible exact List.mem_cons_self | with_reducible apply List.mem_cons_of_mem))
  have lt := cell_lt ct0
  have t1 : decide (st < 366) = false := decide_eq_false (by omega)
  have t2 : decide (en > 3651000) = true := decide_eq_true h2
  go_wp2
  go_ret
  exact ⟨rfl, H.old⟩
set_option maxHeartbeats 8000000 in
set_option maxRecDepth 100000 in
theorem dgrid_false (mo ra ki co st en ms : Int) (lg eo : Bool) (ro : Int) (w : World) (hL : FactsT w) (hc : (Tm.mk mo ra ki co st en ms false lg eo ro).code = 0) (hs : en - st ≤ 6200) (h1 : 366 ≤ st) (h2 : en ≤ 3651000) : Calls Tryz.prog 6 #[.agg #[.int .i64 mo, .int .i64 ra, .int .i64 ki, .int .i64 co, .int .i64 st, .int .i64 en, .int .i64 ms, .bool false, .bool lg, .bool eo, .int .i64 ro]] w fun e w' => e = .returned (.bool true) ∧ Below w.heap.size w w' := by
  have H := (Held.start w).add (f := factsTF) hL
  have CK := Lib.hid (fun v => rcheck15 mo ra ki co st en ms false lg eo ro 0 v hc)
  obtain ⟨hf, hd, ho, -, -⟩ := Tm.of_zero hc
  have mb : 1 ≤ ms ∧ ms ≤ 12 := mo_bd hf.2.2.2
  have SHT := Lib.hid (fun v => short_any mo ra ki co st en ms false lg eo ro 200 true v hd.1 hd.2 ho (by omega) (decide_eq_true (by omega)))
  obtain ⟨X, E, m, hWk⟩ := Tm.walk (Tm.mk mo ra ki co st en ms false lg eo ro) hc (by show en - st ≤ 30000; omega)
  have em : E m = 0 := hWk.is_day hf.2.2.2 h1 h2 ho
  obtain ⟨q, hq⟩ : ∃ q, (Tm.mk mo ra ki co st en ms false lg eo ro).q X E m = q := ⟨_, rfl⟩
  have qb : q ≤ m - 1 := by rw [← hq]; exact Tm.q_bd _ _ _ _
  have top := hWk.top
  have one := hWk.one
  have glm : gl E m = m + 1 := if_pos em
  have OG := Lib.hid (fun v h => grid_any mo ra ki co st en ms false lg eo ro X E m v h hc (by omega) hWk)
  rw [glm] at OG
  have OT := Lib.hid (fun v h => of_dd mo ra ki co st en ms false lg eo ro X E m q v h hc ho (by omega) hWk hq)
  obtain ⟨c, GI⟩ := hWk.grid_is em ho q qb
  obtain ⟨Y, hY⟩ : ∃ Y, (Tm.mk mo ra ki co st en ms false lg eo ro).dd X q = Y := ⟨_, rfl⟩
  obtain ⟨G, hG⟩ : ∃ G, ld ((Tm.mk mo ra ki co st en ms false lg eo ro).grid X (m + 1)) = G := ⟨_, rfl⟩
  rw [hY] at OT GI
  rw [hG] at OG GI
  have fit := GI.fit
  have GL : Hid (decide (G 0 > st) = false) := Lib.hid (decide_eq_false (by have : G 0 ≤ st := GI.lo; omega))
  have GH : Hid (decide (G m < en) = false) := Lib.hid (decide_eq_false (by have : en ≤ G m := GI.hi; omega))
  have GR : Hid (∀ i, i < m → decide (G (i + 1) ≤ G i) = false) := Lib.hid (fun i hi => decide_eq_false (by have := GI.rise i hi; omega))
  have GX : Hid (∀ i, 1 ≤ i → i ≤ q → Y i = G (i + c)) := Lib.hid GI.ix
  have GT : Hid (∀ i j, i < j → j ≤ m → decide (G i < G j) = true) := Lib.hid (fun i j a b => decide_eq_true (GI.lt i j a b))
  have GA : Hid (G 0 = st) := Lib.hid GI.an
  have OO := Lib.hid (And.intro h1 h2)
  clear hc hf hd ho hs hWk hq hY hG em glm GI h1 h2
  clear hL
  go_enter Tryz.func6, Tryz.ntmps6
  go_wp2_with fail
  replace H := H.box_11 (w.heap.size) (.int .i64 mo) (.int .i64 ra) (.int .i64 ki) (.int .i64 co) (.int .i64 st) (.int .i64 en) (.int .i64 ms) (.bool false) (.bool lg) (.bool eo) (.int .i64 ro) 23 rfl
  (with_reducible refine (dshown_any _ (H.factsT (by repeat (first | with_reducible exact List.mem_cons_self | with_reducible apply List.mem_cons_of_mem)))).mono ?_)
  rintro e w1 ⟨rfl, hb⟩
  replace H := H.below hb
  clear hb
  have ct0 := H.cell (w.heap.size) 0 (.int .i64 mo) (by repeat (first | with_reducible exact List.mem_cons_self | with_reducible apply List.mem_cons_of_mem))
  have ct1 := H.cell (w.heap.size) 1 (.int .i64 ra) (by repeat (first | with_reducible exact List.mem_cons_self | with_reducible apply List.mem_cons_of_mem))
  have ct2 := H.cell (w.heap.size) 2 (.int .i64 ki) (by repeat (first | with_reducible exact List.mem_cons_self | with_reducible apply List.mem_cons_of_mem))
  have ct3 := H.cell (w.heap.size) 3 (.int .i64 co) (by repeat (first | with_reducible exact List.mem_cons_self | with_reducible apply List.mem_cons_of_mem))
  have ct4 := H.cell (w.heap.size) 4 (.int .i64 st) (by repeat (first | with_reducible exact List.mem_cons_self | with_reducible apply List.mem_cons_of_mem))
  have ct5 := H.cell (w.heap.size) 5 (.int .i64 en) (by repeat (first | with_reducible exact List.mem_cons_self | with_reducible apply List.mem_cons_of_mem))
  have ct6 := H.cell (w.heap.size) 6 (.int .i64 ms) (by repeat (first | with_reducible exact List.mem_cons_self | with_reducible apply List.mem_cons_of_mem))
  have ct7 := H.cell (w.heap.size) 7 (.bool false) (by repeat (first | with_reducible exact List.mem_cons_self | with_reducible apply List.mem_cons_of_mem))
  have ct8 := H.cell (w.heap.size) 8 (.bool lg) (by repeat (first | with_reducible exact List.mem_cons_self | with_reducible apply List.mem_cons_of_mem))
  have ct9 := H.cell (w.heap.size) 9 (.bool eo) (by repeat (first | with_reducible exact List.mem_cons_self | with_reducible apply List.mem_cons_of_mem))
  have ct10 := H.cell (w.heap.size) 10 (.int .i64 ro) (by repeat (first | with_reducible exact List.mem_cons_self | with_reducible apply List.mem_cons_of_mem))
  have lt := cell_lt ct0
  go_wp2_with fail
  clear ct0 ct1 ct2 ct3 ct4 ct5 ct6 ct7 ct8 ct9 ct10 lt
  (with_reducible refine (CK.out _).mono ?_)
  rintro e w2 ⟨rfl, hb⟩
  replace H := H.below hb
  clear hb
  have ct0 := H.cell (w.heap.size) 0 (.int .i64 mo) (by repeat (first | with_reducible exact List.mem_cons_self | with_reducible apply List.mem_cons_of_mem))
  have ct1 := H.cell (w.heap.size) 1 (.int .i64 ra) (by repeat (first | with_reducible exact List.mem_cons_self | with_reducible apply List.mem_cons_of_mem))
  have ct2 := H.cell (w.heap.size) 2 (.int .i64 ki) (by repeat (first | with_reducible exact List.mem_cons_self | with_reducible apply List.mem_cons_of_mem))
  have ct3 := H.cell (w.heap.size) 3 (.int .i64 co) (by repeat (first | with_reducible exact List.mem_cons_self | with_reducible apply List.mem_cons_of_mem))
  have ct4 := H.cell (w.heap.size) 4 (.int .i64 st) (by repeat (first | with_reducible exact List.mem_cons_self | with_reducible apply List.mem_cons_of_mem))
  have ct5 := H.cell (w.heap.size) 5 (.int .i64 en) (by repeat (first | with_reducible exact List.mem_cons_self | with_reducible apply List.mem_cons_of_mem))
  have ct6 := H.cell (w.heap.size) 6 (.int .i64 ms) (by repeat (first | with_reducible exact List.mem_cons_self | with_reducible apply List.mem_cons_of_mem))
  have ct7 := H.cell (w.heap.size) 7 (.bool false) (by repeat (first | with_reducible exact List.mem_cons_self | with_reducible apply List.mem_cons_of_mem))
  have ct8 := H.cell (w.heap.size) 8 (.bool lg) (by repeat (first | with_reducible exact List.mem_cons_self | with_reducible apply List.mem_cons_of_mem))
  have ct9 := H.cell (w.heap.size) 9 (.bool eo) (by repeat (first | with_reducible exact List.mem_cons_self | with_reducible apply List.mem_cons_of_mem))
  have ct10 := H.cell (w.heap.size) 10 (.int .i64 ro) (by repeat (first | with_reducible exact List.mem_cons_self | with_reducible apply List.mem_cons_of_mem))
  have lt := cell_lt ct0
  go_wp2_with fail
  clear ct0 ct1 ct2 ct3 ct4 ct5 ct6 ct7 ct8 ct9 ct10 lt
  (with_reducible refine (SHT.out _).mono ?_)
  rintro e w3 ⟨rfl, hb⟩
  replace H := H.below hb
  clear hb
  have ct0 := H.cell (w.heap.size) 0 (.int .i64 mo) (by repeat (first | with_reducible exact List.mem_cons_self | with_reducible apply List.mem_cons_of_mem))
  have ct1 := H.cell (w.heap.size) 1 (.int .i64 ra) (by repeat (first | with_reducible exact List.mem_cons_self | with_reducible apply List.mem_cons_of_mem))
  have ct2 := H.cell (w.heap.size) 2 (.int .i64 ki) (by repeat (first | with_reducible exact List.mem_cons_self | with_reducible apply List.mem_cons_of_mem))
  have ct3 := H.cell (w.heap.size) 3 (.int .i64 co) (by repeat (first | with_reducible exact List.mem_cons_self | with_reducible apply List.mem_cons_of_mem))
  have ct4 := H.cell (w.heap.size) 4 (.int .i64 st) (by repeat (first | with_reducible exact List.mem_cons_self | with_reducible apply List.mem_cons_of_mem))
  have ct5 := H.cell (w.heap.size) 5 (.int .i64 en) (by repeat (first | with_reducible exact List.mem_cons_self | with_reducible apply List.mem_cons_of_mem))
  have ct6 := H.cell (w.heap.size) 6 (.int .i64 ms) (by repeat (first | with_reducible exact List.mem_cons_self | with_reducible apply List.mem_cons_of_mem))
  have ct7 := H.cell (w.heap.size) 7 (.bool false) (by repeat (first | with_reducible exact List.mem_cons_self | with_reducible apply List.mem_cons_of_mem))
  have ct8 := H.cell (w.heap.size) 8 (.bool lg) (by repeat (first | with_reducible exact List.mem_cons_self | with_reducible apply List.mem_cons_of_mem))
  have ct9 := H.cell (w.heap.size) 9 (.bool eo) (by repeat (first | with_reducible exact List.mem_cons_self | with_reducible apply List.mem_cons_of_mem))
  have ct10 := H.cell (w.heap.size) 10 (.int .i64 ro) (by repeat (first | with_reducible exact List.mem_cons_self | with_reducible apply List.mem_cons_of_mem))
  have lt := cell_lt ct0
  have h1 := OO.out.1
  have h2 := OO.out.2
  have t1 : decide (st < 366) = false := decide_eq_false (by omega)
  have t2 : decide (en > 3651000) = false := decide_eq_false (by omega)
  clear h1 h2
  go_wp2_with fail
  clear t1 t2 ct0 ct1 ct2 ct3 ct4 ct5 ct6 ct7 ct8 ct9 ct10 lt
  (with_reducible refine (OG.out _ (H.factsT (by repeat (first | with_reducible exact List.mem_cons_self | with_reducible apply List.mem_cons_of_mem)))).mono ?_)
  rintro e w4 ⟨aG, cG, rfl, hd, hb⟩
  replace H := (H.below hb).add (f := daysF aG G (m + 1) cG) hd
  clear hb hd
  have ct0 := H.cell (w.heap.size) 0 (.int .i64 mo) (by repeat (first | with_reducible exact List.mem_cons_self | with_reducible apply List.mem_cons_of_mem))
  have ct1 := H.cell (w.heap.size) 1 (.int .i64 ra) (by repeat (first | with_reducible exact List.mem_cons_self | with_reducible apply List.mem_cons_of_mem))
  have ct2 := H.cell (w.heap.size) 2 (.int .i64 ki) (by repeat (first | with_reducible exact List.mem_cons_self | with_reducible apply List.mem_cons_of_mem))
  have ct3 := H.cell (w.heap.size) 3 (.int .i64 co) (by repeat (first | with_reducible exact List.mem_cons_self | with_reducible apply List.mem_cons_of_mem))
  have ct4 := H.cell (w.heap.size) 4 (.int .i64 st) (by repeat (first | with_reducible exact List.mem_cons_self | with_reducible apply List.mem_cons_of_mem))
  have ct5 := H.cell (w.heap.size) 5 (.int .i64 en) (by repeat (first | with_reducible exact List.mem_cons_self | with_reducible apply List.mem_cons_of_mem))
  have ct6 := H.cell (w.heap.size) 6 (.int .i64 ms) (by repeat (first | with_reducible exact List.mem_cons_self | with_reducible apply List.mem_cons_of_mem))
  have ct7 := H.cell (w.heap.size) 7 (.bool false) (by repeat (first | with_reducible exact List.mem_cons_self | with_reducible apply List.mem_cons_of_mem))
  have ct8 := H.cell (w.heap.size) 8 (.bool lg) (by repeat (first | with_reducible exact List.mem_cons_self | with_reducible apply List.mem_cons_of_mem))
  have ct9 := H.cell (w.heap.size) 9 (.bool eo) (by repeat (first | with_reducible exact List.mem_cons_self | with_reducible apply List.mem_cons_of_mem))
  have ct10 := H.cell (w.heap.size) 10 (.int .i64 ro) (by repeat (first | with_reducible exact List.mem_cons_self | with_reducible apply List.mem_cons_of_mem))
  have lt := cell_lt ct0
  go_wp2_with fail
  clear ct0 ct1 ct2 ct3 ct4 ct5 ct6 ct7 ct8 ct9 ct10 lt
  (with_reducible refine (OT.out _ (H.factsT (by repeat (first | with_reducible exact List.mem_cons_self | with_reducible apply List.mem_cons_of_mem)))).mono ?_)
  rintro e w5 ⟨aY, cY, rfl, hd, hb⟩
  replace H := (H.below hb).add (f := daysF aY Y (q + 1 + 1) cY) hd
  clear hb hd
  obtain ⟨bG, oG, rfl, hG⟩ := (H.days (ao := aG) (X := G) (n := m + 1) (cap := cG) (by repeat (first | with_reducible exact List.mem_cons_self | with_reducible apply List.mem_cons_of_mem))).2 (by omega)
  obtain ⟨bY, oY, rfl, hY⟩ := (H.days (ao := aY) (X := Y) (n := q + 1 + 1) (cap := cY) (by repeat (first | with_reducible exact List.mem_cons_self | with_reducible apply List.mem_cons_of_mem))).2 (by omega)
  have g0 := hG 0 (by omega)
  have gm := hG m (by omega)
  rw [Nat.add_zero] at g0
  have t1 : decide (((m : Int) + 1) < 2) = false := decide_eq_false (by omega)
  have t2 := GL.out
  have t3 := GH.out
  clear hG hY
  have ct0 := H.cell (w.heap.size) 0 (.int .i64 mo) (by repeat (first | with_reducible exact List.mem_cons_self | with_reducible apply List.mem_cons_of_mem))
  have ct1 := H.cell (w.heap.size) 1 (.int .i64 ra) (by repeat (first | with_reducible exact List.mem_cons_self | with_reducible apply List.mem_cons_of_mem))
  have ct2 := H.cell (w.heap.size) 2 (.int .i64 ki) (by repeat (first | with_reducible exact List.mem_cons_self | with_reducible apply List.mem_cons_of_mem))
  have ct3 := H.cell (w.heap.size) 3 (.int .i64 co) (by repeat (first | with_reducible exact List.mem_cons_self | with_reducible apply List.mem_cons_of_mem))
  have ct4 := H.cell (w.heap.size) 4 (.int .i64 st) (by repeat (first | with_reducible exact List.mem_cons_self | with_reducible apply List.mem_cons_of_mem))
  have ct5 := H.cell (w.heap.size) 5 (.int .i64 en) (by repeat (first | with_reducible exact List.mem_cons_self | with_reducible apply List.mem_cons_of_mem))
  have ct6 := H.cell (w.heap.size) 6 (.int .i64 ms) (by repeat (first | with_reducible exact List.mem_cons_self | with_reducible apply List.mem_cons_of_mem))
  have ct7 := H.cell (w.heap.size) 7 (.bool false) (by repeat (first | with_reducible exact List.mem_cons_self | with_reducible apply List.mem_cons_of_mem))
  have ct8 := H.cell (w.heap.size) 8 (.bool lg) (by repeat (first | with_reducible exact List.mem_cons_self | with_reducible apply List.mem_cons_of_mem))
  have ct9 := H.cell (w.heap.size) 9 (.bool eo) (by repeat (first | with_reducible exact List.mem_cons_self | with_reducible apply List.mem_cons_of_mem))
  have ct10 := H.cell (w.heap.size) 10 (.int .i64 ro) (by repeat (first | with_reducible exact List.mem_cons_self | with_reducible apply List.mem_cons_of_mem))
  have lt := cell_lt ct0
  go_wp2_with fail
  go_quiet (fail)
  clear ct0 ct1 ct2 ct3 ct4 ct5 ct6 ct7 ct8 ct9 ct10 lt g0 gm t1 t2 t3
  replace H := H.drewN nq
  obtain ⟨W5, hW5⟩ : ∃ W5, World.drewN w5 nq = W5 := ⟨_, rfl⟩
  rw [hW5] at H ⊢
  clear hW5
  obtain ⟨bG2, oG2, eG, hG⟩ := (H.days (ao := some ⟨bG, oG, none⟩) (X := G) (n := m + 1) (cap := cG) (by repeat (first | with_reducible exact List.mem_cons_self | with_reducible apply List.mem_cons_of_mem))).2 (by omega)
  obtain ⟨bY2, oY2, eY, hY⟩ := (H.days (ao := some ⟨bY, oY, none⟩) (X := Y) (n := q + 1 + 1) (cap := cY) (by repeat (first | with_reducible exact List.mem_cons_self | with_reducible apply List.mem_cons_of_mem))).2 (by omega)
  injection eG with eG
  injection eG with e1 e2 _
  subst e1 e2
  injection eY with eY
  injection eY with e1 e2 _
  subst e1 e2
  have KG : Hid (∀ W, Below W5.heap.size W5 W → ∀ i, i < m + 1 → W.cell? ⟨bG, oG + i, none⟩ = some (.int .i64 (G i))) := Lib.hid (fun W hb i hi => keep hb (cell_lt (hG i hi)) (hG i hi))
  have KY : Hid (∀ W, Below W5.heap.size W5 W → ∀ i, i < q + 1 + 1 → W.cell? ⟨bY, oY + i, none⟩ = some (.int .i64 (Y i))) := Lib.hid (fun W hb i hi => keep hb (cell_lt (hY i hi)) (hY i hi))
  have HH := Lib.hid H
  clear H hG hY
  go_wp2_with fail
  go_loopw [9] (fun i wr => ∃ k : Nat, 1 ≤ k ∧ k ≤ m + 1 ∧ i = .int .i64 (k : Int) ∧ Below W5.heap.size W5 wr) (fun i _ => m + 1 - (intOf i).toNat)
  case atStart => exact ⟨1, by omega, by omega, rfl, Below.refl _ _⟩
  case round =>
    obtain ⟨k, hk1, hk, rfl, hB⟩ := hrel
    have HB := Lib.hid hB
    by_cases hlt : k < m + 1
    · obtain ⟨p, rfl⟩ : ∃ p, k = p + 1 := ⟨k - 1, by omega⟩
      have kk := KG.out _ hB (p + 1) hlt
      have kp := KG.out _ hB p (by omega)
      have tr := GR.out p (by omega)
      clear hB
      go_wp2_with fail
      go_quiet (fail)
      go_wp2_with fail
      go_roundw
      case rel => exact ⟨p + 1 + 1, by omega, by omega, by go_num, belowDrewN HB.out nq⟩
      case measure => simp [intOf] <;> omega
    · obtain rfl : k = m + 1 := by omega
      clear hB
      go_wp2_with fail
      go_loopw [10, 11] (fun a b wr => ∃ i j : Nat, 1 ≤ j ∧ j ≤ q + 1 ∧ i ≤ j + c ∧ a = .int .i64 (i : Int) ∧ b = .int .i64 (j : Int) ∧ Below W5.heap.size W5 wr) (fun _ b _ => q + 1 - (intOf b).toNat)
      case atStart => exact ⟨0, 1, by omega, by omega, by omega, rfl, rfl, HB.out⟩
      case round =>
        obtain ⟨i, j, hj1, hj, hij, rfl, rfl, hB⟩ := hrel
        have HB2 := Lib.hid hB
        by_cases hlt : j < q + 1
        · clear hB
          go_wp2_with fail
          go_loopw [10] (fun a wr => ∃ i : Nat, i ≤ j + c ∧ a = .int .i64 (i : Int) ∧ Below W5.heap.size W5 wr) (fun a _ => j + c - (intOf a).toNat)
          case atStart => exact ⟨i, hij, rfl, HB2.out⟩
          case round =>
            obtain ⟨i2, hi2, rfl, hB⟩ := hrel
            have HB3 := Lib.hid hB
            have kg := KG.out _ hB i2 (by omega)
            have ky := KY.out _ hB j (by omega)
            rw [GX.out j hj1 (by omega)] at ky
            clear hB
            have ta : decide ((i2 : Int) < (m : Int) + 1) = true := decide_eq_true (by omega)
            by_cases hle : i2 < j + c
            · have tr := GT.out i2 (j + c) hle (by omega)
              go_wp2_with fail
              go_quiet (fail)
              go_wp2_with fail
              go_roundw
              case rel => exact ⟨i2 + 1, by omega, by go_num, belowDrewN HB3.out nq⟩
              case measure => simp [intOf] <;> omega
            · have hz : j + c = i2 := by omega
              have HZ : Hid (i2 ≤ j + 1 + c) := Lib.hid (by omega)
              rw [hz] at ky
              have GZ := GX.out j hj1 (by omega)
              rw [hz] at GZ
              have HGZ := Lib.hid GZ
              obtain ⟨x, hx⟩ : ∃ x, G i2 = x := ⟨_, rfl⟩
              rw [hx] at kg ky
              have HX := Lib.hid hx
              have tr : decide (x < x) = false := decide_eq_false (by omega)
              clear hx GZ hz
              go_wp2_with fail
              go_quiet (fail)
              clear kg ky ta tr
              have hb4 := belowDrewN HB3.out nq
              revert hb4
              generalize World.drewN _ nq = W6
              intro hb4
              have kg := KG.out _ hb4 i2 (by omega)
              have ky := KY.out _ hb4 j (by omega)
              rw [HX.out] at kg
              rw [HGZ.out, HX.out] at ky
              have HB4 := Lib.hid hb4
              have te : decide ((i2 : Int) ≥ (m : Int) + 1) = false := decide_eq_false (by omega)
              have tx : (x != x) = false := by simp
              clear hb4
              go_wp2_with fail
              go_quiet (fail)
              go_wp2_with fail
              go_roundw
              case rel => exact ⟨i2, j + 1, by omega, by omega, HZ.out, rfl, by go_num, belowDrewN HB4.out nq⟩
              case measure => simp [intOf] <;> omega
        · obtain rfl : j = q + 1 := by omega
          have g0 := KG.out _ hB 0 (by omega)
          have gm := KG.out _ hB m (by omega)
          rw [Nat.add_zero] at g0
          rw [GA.out] at g0
          have H := HH.out.below hB
          clear hB
          have ct4 := H.cell (w.heap.size) 4 (.int .i64 st) (by repeat (first | with_reducible exact List.mem_cons_self | with_reducible apply List.mem_cons_of_mem))
          have ct5 := H.cell (w.heap.size) 5 (.int .i64 en) (by repeat (first | with_reducible exact List.mem_cons_self | with_reducible apply List.mem_cons_of_mem))
          have ct7 := H.cell (w.heap.size) 7 (.bool false) (by repeat (first | with_reducible exact List.mem_cons_self | with_reducible apply List.mem_cons_of_mem))
          have lct := cell_lt ct4
          go_wp2_with fail
          go_quiet (fail)
          go_wp2
          go_ret
          exact ⟨rfl, (H.drewN nq).old⟩
set_option maxHeartbeats 8000000 in
set_option maxRecDepth 100000 in
theorem dgrid_true (mo ra ki co st en ms : Int) (lg eo : Bool) (ro : Int) (w : World) (hL : FactsT w) (hc : (Tm.mk mo ra ki co st en ms true lg eo ro).code = 0) (hs : en - st ≤ 6200) (h1 : 366 ≤ st) (h2 : en ≤ 3651000) : Calls Tryz.prog 6 #[.agg #[.int .i64 mo, .int .i64 ra, .int .i64 ki, .int .i64 co, .int .i64 st, .int .i64 en, .int .i64 ms, .bool true, .bool lg, .bool eo, .int .i64 ro]] w fun e w' => e = .returned (.bool true) ∧ Below w.heap.size w w' := by
  have H := (Held.start w).add (f := factsTF) hL
  have CK := Lib.hid (fun v => rcheck15 mo ra ki co st en ms true lg eo ro 0 v hc)
  obtain ⟨hf, hd, ho, -, -⟩ := Tm.of_zero hc
  have mb : 1 ≤ ms ∧ ms ≤ 12 := mo_bd hf.2.2.2
  have SHT := Lib.hid (fun v => short_any mo ra ki co st en ms true lg eo ro 200 true v hd.1 hd.2 ho (by omega) (decide_eq_true (by omega)))
  obtain ⟨X, E, m, hWk⟩ := Tm.walk (Tm.mk mo ra ki co st en ms true lg eo ro) hc (by show en - st ≤ 30000; omega)
  have em : E m = 0 := hWk.is_day hf.2.2.2 h1 h2 ho
  obtain ⟨q, hq⟩ : ∃ q, (Tm.mk mo ra ki co st en ms true lg eo ro).q X E m = q := ⟨_, rfl⟩
  have qb : q ≤ m - 1 := by rw [← hq]; exact Tm.q_bd _ _ _ _
  have top := hWk.top
  have one := hWk.one
  have glm : gl E m = m + 1 := if_pos em
  have OG := Lib.hid (fun v h => grid_any mo ra ki co st en ms true lg eo ro X E m v h hc (by omega) hWk)
  rw [glm] at OG
  have OT := Lib.hid (fun v h => of_dd mo ra ki co st en ms true lg eo ro X E m q v h hc ho (by omega) hWk hq)
  obtain ⟨c, GI⟩ := hWk.grid_is em ho q qb
  obtain ⟨Y, hY⟩ : ∃ Y, (Tm.mk mo ra ki co st en ms true lg eo ro).dd X q = Y := ⟨_, rfl⟩
  obtain ⟨G, hG⟩ : ∃ G, ld ((Tm.mk mo ra ki co st en ms true lg eo ro).grid X (m + 1)) = G := ⟨_, rfl⟩
  rw [hY] at OT GI
  rw [hG] at OG GI
  have fit := GI.fit
  have GL : Hid (decide (G 0 > st) = false) := Lib.hid (decide_eq_false (by have : G 0 ≤ st := GI.lo; omega))
  have GH : Hid (decide (G m < en) = false) := Lib.hid (decide_eq_false (by have : en ≤ G m := GI.hi; omega))
  have GR : Hid (∀ i, i < m → decide (G (i + 1) ≤ G i) = false) := Lib.hid (fun i hi => decide_eq_false (by have := GI.rise i hi; omega))
  have GX : Hid (∀ i, 1 ≤ i → i ≤ q → Y i = G (i + c)) := Lib.hid GI.ix
  have GT : Hid (∀ i j, i < j → j ≤ m → decide (G i < G j) = true) := Lib.hid (fun i j a b => decide_eq_true (GI.lt i j a b))
  have GA : Hid (G m = en) := Lib.hid GI.an
  have OO := Lib.hid (And.intro h1 h2)
  clear hc hf hd ho hs hWk hq hY hG em glm GI h1 h2
  clear hL
  go_enter Tryz.func6, Tryz.ntmps6
  go_wp2_with fail
  replace H := H.box_11 (w.heap.size) (.int .i64 mo) (.int .i64 ra) (.int .i64 ki) (.int .i64 co) (.int .i64 st) (.int .i64 en) (.int .i64 ms) (.bool true) (.bool lg) (.bool eo) (.int .i64 ro) 23 rfl
  (with_reducible refine (dshown_any _ (H.factsT (by repeat (first | with_reducible exact List.mem_cons_self | with_reducible apply List.mem_cons_of_mem)))).mono ?_)
  rintro e w1 ⟨rfl, hb⟩
  replace H := H.below hb
  clear hb
  have ct0 := H.cell (w.heap.size) 0 (.int .i64 mo) (by repeat (first | with_reducible exact List.mem_cons_self | with_reducible apply List.mem_cons_of_mem))
  have ct1 := H.cell (w.heap.size) 1 (.int .i64 ra) (by repeat (first | with_reducible exact List.mem_cons_self | with_reducible apply List.mem_cons_of_mem))
  have ct2 := H.cell (w.heap.size) 2 (.int .i64 ki) (by repeat (first | with_reducible exact List.mem_cons_self | with_reducible apply List.mem_cons_of_mem))
  have ct3 := H.cell (w.heap.size) 3 (.int .i64 co) (by repeat (first | with_reducible exact List.mem_cons_self | with_reducible apply List.mem_cons_of_mem))
  have ct4 := H.cell (w.heap.size) 4 (.int .i64 st) (by repeat (first | with_reducible exact List.mem_cons_self | with_reducible apply List.mem_cons_of_mem))
  have ct5 := H.cell (w.heap.size) 5 (.int .i64 en) (by repeat (first | with_reducible exact List.mem_cons_self | with_reducible apply List.mem_cons_of_mem))
  have ct6 := H.cell (w.heap.size) 6 (.int .i64 ms) (by repeat (first | with_reducible exact List.mem_cons_self | with_reducible apply List.mem_cons_of_mem))
  have ct7 := H.cell (w.heap.size) 7 (.bool true) (by repeat (first | with_reducible exact List.mem_cons_self | with_reducible apply List.mem_cons_of_mem))
  have ct8 := H.cell (w.heap.size) 8 (.bool lg) (by repeat (first | with_reducible exact List.mem_cons_self | with_reducible apply List.mem_cons_of_mem))
  have ct9 := H.cell (w.heap.size) 9 (.bool eo) (by repeat (first | with_reducible exact List.mem_cons_self | with_reducible apply List.mem_cons_of_mem))
  have ct10 := H.cell (w.heap.size) 10 (.int .i64 ro) (by repeat (first | with_reducible exact List.mem_cons_self | with_reducible apply List.mem_cons_of_mem))
  have lt := cell_lt ct0
  go_wp2_with fail
  clear ct0 ct1 ct2 ct3 ct4 ct5 ct6 ct7 ct8 ct9 ct10 lt
  (with_reducible refine (CK.out _).mono ?_)
  rintro e w2 ⟨rfl, hb⟩
  replace H := H.below hb
  clear hb
  have ct0 := H.cell (w.heap.size) 0 (.int .i64 mo) (by repeat (first | with_reducible exact List.mem_cons_self | with_reducible apply List.mem_cons_of_mem))
  have ct1 := H.cell (w.heap.size) 1 (.int .i64 ra) (by repeat (first | with_reducible exact List.mem_cons_self | with_reducible apply List.mem_cons_of_mem))
  have ct2 := H.cell (w.heap.size) 2 (.int .i64 ki) (by repeat (first | with_reducible exact List.mem_cons_self | with_reducible apply List.mem_cons_of_mem))
  have ct3 := H.cell (w.heap.size) 3 (.int .i64 co) (by repeat (first | with_reducible exact List.mem_cons_self | with_reducible apply List.mem_cons_of_mem))
  have ct4 := H.cell (w.heap.size) 4 (.int .i64 st) (by repeat (first | with_reducible exact List.mem_cons_self | with_reducible apply List.mem_cons_of_mem))
  have ct5 := H.cell (w.heap.size) 5 (.int .i64 en) (by repeat (first | with_reducible exact List.mem_cons_self | with_reducible apply List.mem_cons_of_mem))
  have ct6 := H.cell (w.heap.size) 6 (.int .i64 ms) (by repeat (first | with_reducible exact List.mem_cons_self | with_reducible apply List.mem_cons_of_mem))
  have ct7 := H.cell (w.heap.size) 7 (.bool true) (by repeat (first | with_reducible exact List.mem_cons_self | with_reducible apply List.mem_cons_of_mem))
  have ct8 := H.cell (w.heap.size) 8 (.bool lg) (by repeat (first | with_reducible exact List.mem_cons_self | with_reducible apply List.mem_cons_of_mem))
  have ct9 := H.cell (w.heap.size) 9 (.bool eo) (by repeat (first | with_reducible exact List.mem_cons_self | with_reducible apply List.mem_cons_of_mem))
  have ct10 := H.cell (w.heap.size) 10 (.int .i64 ro) (by repeat (first | with_reducible exact List.mem_cons_self | with_reducible apply List.mem_cons_of_mem))
  have lt := cell_lt ct0
  go_wp2_with fail
  clear ct0 ct1 ct2 ct3 ct4 ct5 ct6 ct7 ct8 ct9 ct10 lt
  (with_reducible refine (SHT.out _).mono ?_)
  rintro e w3 ⟨rfl, hb⟩
  replace H := H.below hb
  clear hb
  have ct0 := H.cell (w.heap.size) 0 (.int .i64 mo) (by repeat (first | with_reducible exact List.mem_cons_self | with_reducible apply List.mem_cons_of_mem))
  have ct1 := H.cell (w.heap.size) 1 (.int .i64 ra) (by repeat (first | with_reducible exact List.mem_cons_self | with_reducible apply List.mem_cons_of_mem))
  have ct2 := H.cell (w.heap.size) 2 (.int .i64 ki) (by repeat (first | with_reducible exact List.mem_cons_self | with_reducible apply List.mem_cons_of_mem))
  have ct3 := H.cell (w.heap.size) 3 (.int .i64 co) (by repeat (first | with_reducible exact List.mem_cons_self | with_reducible apply List.mem_cons_of_mem))
  have ct4 := H.cell (w.heap.size) 4 (.int .i64 st) (by repeat (first | with_reducible exact List.mem_cons_self | with_reducible apply List.mem_cons_of_mem))
  have ct5 := H.cell (w.heap.size) 5 (.int .i64 en) (by repeat (first | with_reducible exact List.mem_cons_self | with_reducible apply List.mem_cons_of_mem))
  have ct6 := H.cell (w.heap.size) 6 (.int .i64 ms) (by repeat (first | with_reducible exact List.mem_cons_self | with_reducible apply List.mem_cons_of_mem))
  have ct7 := H.cell (w.heap.size) 7 (.bool true) (by repeat (first | with_reducible exact List.mem_cons_self | with_reducible apply List.mem_cons_of_mem))
  have ct8 := H.cell (w.heap.size) 8 (.bool lg) (by repeat (first | with_reducible exact List.mem_cons_self | with_reducible apply List.mem_cons_of_mem))
  have ct9 := H.cell (w.heap.size) 9 (.bool eo) (by repeat (first | with_reducible exact List.mem_cons_self | with_reducible apply List.mem_cons_of_mem))
  have ct10 := H.cell (w.heap.size) 10 (.int .i64 ro) (by repeat (first | with_reducible exact List.mem_cons_self | with_reducible apply List.mem_cons_of_mem))
  have lt := cell_lt ct0
  have h1 := OO.out.1
  have h2 := OO.out.2
  have t1 : decide (st < 366) = false := decide_eq_false (by omega)
  have t2 : decide (en > 3651000) = false := decide_eq_false (by omega)
  clear h1 h2
  go_wp2_with fail
  clear t1 t2 ct0 ct1 ct2 ct3 ct4 ct5 ct6 ct7 ct8 ct9 ct10 lt
  (with_reducible refine (OG.out _ (H.factsT (by repeat (first | with_reducible exact List.mem_cons_self | with_reducible apply List.mem_cons_of_mem)))).mono ?_)
  rintro e w4 ⟨aG, cG, rfl, hd, hb⟩
  replace H := (H.below hb).add (f := daysF aG G (m + 1) cG) hd
  clear hb hd
  have ct0 := H.cell (w.heap.size) 0 (.int .i64 mo) (by repeat (first | with_reducible exact List.mem_cons_self | with_reducible apply List.mem_cons_of_mem))
  have ct1 := H.cell (w.heap.size) 1 (.int .i64 ra) (by repeat (first | with_reducible exact List.mem_cons_self | with_reducible apply List.mem_cons_of_mem))
  have ct2 := H.cell (w.heap.size) 2 (.int .i64 ki) (by repeat (first | with_reducible exact List.mem_cons_self | with_reducible apply List.mem_cons_of_mem))
  have ct3 := H.cell (w.heap.size) 3 (.int .i64 co) (by repeat (first | with_reducible exact List.mem_cons_self | with_reducible apply List.mem_cons_of_mem))
  have ct4 := H.cell (w.heap.size) 4 (.int .i64 st) (by repeat (first | with_reducible exact List.mem_cons_self | with_reducible apply List.mem_cons_of_mem))
  have ct5 := H.cell (w.heap.size) 5 (.int .i64 en) (by repeat (first | with_reducible exact List.mem_cons_self | with_reducible apply List.mem_cons_of_mem))
  have ct6 := H.cell (w.heap.size) 6 (.int .i64 ms) (by repeat (first | with_reducible exact List.mem_cons_self | with_reducible apply List.mem_cons_of_mem))
  have ct7 := H.cell (w.heap.size) 7 (.bool true) (by repeat (first | with_reducible exact List.mem_cons_self | with_reducible apply List.mem_cons_of_mem))
  have ct8 := H.cell (w.heap.size) 8 (.bool lg) (by repeat (first | with_reducible exact List.mem_cons_self | with_reducible apply List.mem_cons_of_mem))
  have ct9 := H.cell (w.heap.size) 9 (.bool eo) (by repeat (first | with_reducible exact List.mem_cons_self | with_reducible apply List.mem_cons_of_mem))
  have ct10 := H.cell (w.heap.size) 10 (.int .i64 ro) (by repeat (first | with_reducible exact List.mem_cons_self | with_reducible apply List.mem_cons_of_mem))
  have lt := cell_lt ct0
  go_wp2_with fail
  clear ct0 ct1 ct2 ct3 ct4 ct5 ct6 ct7 ct8 ct9 ct10 lt
  (with_reducible refine (OT.out _ (H.factsT (by repeat (first | with_reducible exact List.mem_cons_self | with_reducible apply List.mem_cons_of_mem)))).mono ?_)
  rintro e w5 ⟨aY, cY, rfl, hd, hb⟩
  replace H := (H.below hb).add (f := daysF aY Y (q + 1 + 1) cY) hd
  clear hb hd
  obtain ⟨bG, oG, rfl, hG⟩ := (H.days (ao := aG) (X := G) (n := m + 1) (cap := cG) (by repeat (first | with_reducible exact List.mem_cons_self | with_reducible apply List.mem_cons_of_mem))).2 (by omega)
  obtain ⟨bY, oY, rfl, hY⟩ := (H.days (ao := aY) (X := Y) (n := q + 1 + 1) (cap := cY) (by repeat (first | with_reducible exact List.mem_cons_self | with_reducible apply List.mem_cons_of_mem))).2 (by omega)
  have g0 := hG 0 (by omega)
  have gm := hG m (by omega)
  rw [Nat.add_zero] at g0
  have t1 : decide (((m : Int) + 1) < 2) = false := decide_eq_false (by omega)
  have t2 := GL.out
  have t3 := GH.out
  clear hG hY
  have ct0 := H.cell (w.heap.size) 0 (.int .i64 mo) (by repeat (first | with_reducible exact List.mem_cons_self | with_reducible apply List.mem_cons_of_mem))
  have ct1 := H.cell (w.heap.size) 1 (.int .i64 ra) (by repeat (first | with_reducible exact List.mem_cons_self | with_reducible apply List.mem_cons_of_mem))
  have ct2 := H.cell (w.heap.size) 2 (.int .i64 ki) (by repeat (first | with_reducible exact List.mem_cons_self | with_reducible apply List.mem_cons_of_mem))
  have ct3 := H.cell (w.heap.size) 3 (.int .i64 co) (by repeat (first | with_reducible exact List.mem_cons_self | with_reducible apply List.mem_cons_of_mem))
  have ct4 := H.cell (w.heap.size) 4 (.int .i64 st) (by repeat (first | with_reducible exact List.mem_cons_self | with_reducible apply List.mem_cons_of_mem))
  have ct5 := H.cell (w.heap.size) 5 (.int .i64 en) (by repeat (first | with_reducible exact List.mem_cons_self | with_reducible apply List.mem_cons_of_mem))
  have ct6 := H.cell (w.heap.size) 6 (.int .i64 ms) (by repeat (first | with_reducible exact List.mem_cons_self | with_reducible apply List.mem_cons_of_mem))
  have ct7 := H.cell (w.heap.size) 7 (.bool true) (by repeat (first | with_reducible exact List.mem_cons_self | with_reducible apply List.mem_cons_of_mem))
  have ct8 := H.cell (w.heap.size) 8 (.bool lg) (by repeat (first | with_reducible exact List.mem_cons_self | with_reducible apply List.mem_cons_of_mem))
  have ct9 := H.cell (w.heap.size) 9 (.bool eo) (by repeat (first | with_reducible exact List.mem_cons_self | with_reducible apply List.mem_cons_of_mem))
  have ct10 := H.cell (w.heap.size) 10 (.int .i64 ro) (by repeat (first | with_reducible exact List.mem_cons_self | with_reducible apply List.mem_cons_of_mem))
  have lt := cell_lt ct0
  go_wp2_with fail
  go_quiet (fail)
  clear ct0 ct1 ct2 ct3 ct4 ct5 ct6 ct7 ct8 ct9 ct10 lt g0 gm t1 t2 t3
  replace H := H.drewN nq
  obtain ⟨W5, hW5⟩ : ∃ W5, World.drewN w5 nq = W5 := ⟨_, rfl⟩
  rw [hW5] at H ⊢
  clear hW5
  obtain ⟨bG2, oG2, eG, hG⟩ := (H.days (ao := some ⟨bG, oG, none⟩) (X := G) (n := m + 1) (cap := cG) (by repeat (first | with_reducible exact List.mem_cons_self | with_reducible apply List.mem_cons_of_mem))).2 (by omega)
  obtain ⟨bY2, oY2, eY, hY⟩ := (H.days (ao := some ⟨bY, oY, none⟩) (X := Y) (n := q + 1 + 1) (cap := cY) (by repeat (first | with_reducible exact List.mem_cons_self | with_reducible apply List.mem_cons_of_mem))).2 (by omega)
  injection eG with eG
  injection eG with e1 e2 _
  subst e1 e2
  injection eY with eY
  injection eY with e1 e2 _
  subst e1 e2
  have KG : Hid (∀ W, Below W5.heap.size W5 W → ∀ i, i < m + 1 → W.cell? ⟨bG, oG + i, none⟩ = some (.int .i64 (G i))) := Lib.hid (fun W hb i hi => keep hb (cell_lt (hG i hi)) (hG i hi))
  have KY : Hid (∀ W, Below W5.heap.size W5 W → ∀ i, i < q + 1 + 1 → W.cell? ⟨bY, oY + i, none⟩ = some (.int .i64 (Y i))) := Lib.hid (fun W hb i hi => keep hb (cell_lt (hY i hi)) (hY i hi))
  have HH := Lib.hid H
  clear H hG hY
  go_wp2_with fail
  go_loopw [9] (fun i wr => ∃ k : Nat, 1 ≤ k ∧ k ≤ m + 1 ∧ i = .int .i64 (k : Int) ∧ Below W5.heap.size W5 wr) (fun i _ => m + 1 - (intOf i).toNat)
  case atStart => exact ⟨1, by omega, by omega, rfl, Below.refl _ _⟩
  case round =>
    obtain ⟨k, hk1, hk, rfl, hB⟩ := hrel
    have HB := Lib.hid hB
    by_cases hlt : k < m + 1
    · obtain ⟨p, rfl⟩ : ∃ p, k = p + 1 := ⟨k - 1, by omega⟩
      have kk := KG.out _ hB (p + 1) hlt
      have kp := KG.out _ hB p (by omega)
      have tr := GR.out p (by omega)
      clear hB
      go_wp2_with fail
      go_quiet (fail)
      go_wp2_with fail
      go_roundw
      case rel => exact ⟨p + 1 + 1, by omega, by omega, by go_num, belowDrewN HB.out nq⟩
      case measure => simp [intOf] <;> omega
    · obtain rfl : k = m + 1 := by omega
      clear hB
      go_wp2_with fail
      go_loopw [10, 11] (fun a b wr => ∃ i j : Nat, 1 ≤ j ∧ j ≤ q + 1 ∧ i ≤ j + c ∧ a = .int .i64 (i : Int) ∧ b = .int .i64 (j : Int) ∧ Below W5.heap.size W5 wr) (fun _ b _ => q + 1 - (intOf b).toNat)
      case atStart => exact ⟨0, 1, by omega, by omega, by omega, rfl, rfl, HB.out⟩
      case round =>
        obtain ⟨i, j, hj1, hj, hij, rfl, rfl, hB⟩ := hrel
        have HB2 := Lib.hid hB
        by_cases hlt : j < q + 1
        · clear hB
          go_wp2_with fail
          go_loopw [10] (fun a wr => ∃ i : Nat, i ≤ j + c ∧ a = .int .i64 (i : Int) ∧ Below W5.heap.size W5 wr) (fun a _ => j + c - (intOf a).toNat)
          case atStart => exact ⟨i, hij, rfl, HB2.out⟩
          case round =>
            obtain ⟨i2, hi2, rfl, hB⟩ := hrel
            have HB3 := Lib.hid hB
            have kg := KG.out _ hB i2 (by omega)
            have ky := KY.out _ hB j (by omega)
            rw [GX.out j hj1 (by omega)] at ky
            clear hB
            have ta : decide ((i2 : Int) < (m : Int) + 1) = true := decide_eq_true (by omega)
            by_cases hle : i2 < j + c
            · have tr := GT.out i2 (j + c) hle (by omega)
              go_wp2_with fail
              go_quiet (fail)
              go_wp2_with fail
              go_roundw
              case rel => exact ⟨i2 + 1, by omega, by go_num, belowDrewN HB3.out nq⟩
              case measure => simp [intOf] <;> omega
            · have hz : j + c = i2 := by omega
              have HZ : Hid (i2 ≤ j + 1 + c) := Lib.hid (by omega)
              rw [hz] at ky
              have GZ := GX.out j hj1 (by omega)
              rw [hz] at GZ
              have HGZ := Lib.hid GZ
              obtain ⟨x, hx⟩ : ∃ x, G i2 = x := ⟨_, rfl⟩
              rw [hx] at kg ky
              have HX := Lib.hid hx
              have tr : decide (x < x) = false := decide_eq_false (by omega)
              clear hx GZ hz
              go_wp2_with fail
              go_quiet (fail)
              clear kg ky ta tr
              have hb4 := belowDrewN HB3.out nq
              revert hb4
              generalize World.drewN _ nq = W6
              intro hb4
              have kg := KG.out _ hb4 i2 (by omega)
              have ky := KY.out _ hb4 j (by omega)
              rw [HX.out] at kg
              rw [HGZ.out, HX.out] at ky
              have HB4 := Lib.hid hb4
              have te : decide ((i2 : Int) ≥ (m : Int) + 1) = false := decide_eq_false (by omega)
              have tx : (x != x) = false := by simp
              clear hb4
              go_wp2_with fail
              go_quiet (fail)
              go_wp2_with fail
              go_roundw
              case rel => exact ⟨i2, j + 1, by omega, by omega, HZ.out, rfl, by go_num, belowDrewN HB4.out nq⟩
              case measure => simp [intOf] <;> omega
        · obtain rfl : j = q + 1 := by omega
          have g0 := KG.out _ hB 0 (by omega)
          have gm := KG.out _ hB m (by omega)
          rw [Nat.add_zero] at g0
          rw [GA.out] at gm
          have H := HH.out.below hB
          clear hB
          have ct4 := H.cell (w.heap.size) 4 (.int .i64 st) (by repeat (first | with_reducible exact List.mem_cons_self | with_reducible apply List.mem_cons_of_mem))
          have ct5 := H.cell (w.heap.size) 5 (.int .i64 en) (by repeat (first | with_reducible exact List.mem_cons_self | with_reducible apply List.mem_cons_of_mem))
          have ct7 := H.cell (w.heap.size) 7 (.bool true) (by repeat (first | with_reducible exact List.mem_cons_self | with_reducible apply List.mem_cons_of_mem))
          have lct := cell_lt ct4
          go_wp2_with fail
          go_quiet (fail)
          go_wp2
          go_ret
          exact ⟨rfl, (H.drewN nq).old⟩
theorem dgrid_walk (mo ra ki co st en ms : Int) (bk lg eo : Bool) (ro : Int) (w : World) (hL : FactsT w) : Calls Tryz.prog 6 #[.agg #[.int .i64 mo, .int .i64 ra, .int .i64 ki, .int .i64 co, .int .i64 st, .int .i64 en, .int .i64 ms, .bool bk, .bool lg, .bool eo, .int .i64 ro]] w fun e w' => e = .returned (.bool true) ∧ Below w.heap.size w w' := by
  by_cases hc : (Tm.mk mo ra ki co st en ms bk lg eo ro).code = 0
  · by_cases hs : en - st ≤ 6200
    · by_cases h1 : 366 ≤ st
      · by_cases h2 : en ≤ 3651000
        · cases bk
          · exact dgrid_false mo ra ki co st en ms lg eo ro w hL hc hs h1 h2
          · exact dgrid_true mo ra ki co st en ms lg eo ro w hL hc hs h1 h2
        · exact dgrid_late mo ra ki co st en ms bk lg eo ro w hL hc hs h1 (by omega)
      · exact dgrid_early mo ra ki co st en ms bk lg eo ro w hL hc hs (by omega)
    · exact dgrid_far mo ra ki co st en ms bk lg eo ro w hL hc (by omega)
  · exact dgrid_no mo ra ki co st en ms bk lg eo ro _ w hL rfl hc
end Go.Proofs.YtjijgcgbnmobfaaGreatDoor
