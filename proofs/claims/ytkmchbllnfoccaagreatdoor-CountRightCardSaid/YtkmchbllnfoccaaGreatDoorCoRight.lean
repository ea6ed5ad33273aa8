/- CountRight: the walk. -/
import Derived.Test.YtkmchbllnfoccaaGreatDoorCoShown
namespace Go.Proofs.YtkmchbllnfoccaaGreatDoor
open Go.RowKit
set_option linter.unusedVariables false
set_option linter.unusedSimpArgs false

set_option maxHeartbeats 4000000 in
set_option maxRecDepth 100000 in
theorem crt_a (K : CWay) (kd0 a b : Int) (t : Bool) (en f : Int) (ao : Option Addr) (n cap : Nat) (X : Nat → Int)  (w : World) (hL : FactsC w) (hR : RowAt w ao X n cap) (bk : 0 ≤ kd0 ∧ kd0 < 256) (h : ¬ (1 ≤ a ∧ a ≤ 3652059)) :
    Calls Tryz.prog 8 #[.agg #[.int .u8 kd0, .int .i64 a, .int .i64 b, .bool t, .int .i64 en, .int .i64 f, .slice ao n cap]] w fun e w' => e = .returned (.bool true) ∧ Below w.heap.size w w' := by
  have H := ((Held.start w).add (f := factsCF) hL).add (f := rowF ao X n cap) hR
  clear hL hR
  have Da : Hid (decide (1 ≤ a ∧ a ≤ 3652059) = false) := Lib.hid (by rw [decide_eq_false_iff_not]; omega)
  go_enter Tryz.func8, Tryz.ntmps8
  go_wp2_with fail
  replace H := (H.alloc (.cells #[.int .u8 kd0, .int .i64 a, .int .i64 b, .bool t, .int .i64 en, .int .i64 f, .slice ao n cap] 54)).quad (w.heap.size + 1) (.bool t) (.int .i64 en) (.int .i64 f) (.slice ao n cap) 24 (by simp)
  (with_reducible refine (coshown_any K _ (H.factsC (by repeat (first | with_reducible exact List.mem_cons_self | with_reducible apply List.mem_cons_of_mem)))).mono ?_)
  rintro e w1 ⟨rfl, hb⟩
  replace H := H.below hb
  clear hb
  have cs0 := H.cell (w.heap.size + 1) 0 (.bool t) (by repeat (first | with_reducible exact List.mem_cons_self | with_reducible apply List.mem_cons_of_mem))
  have cs1 := H.cell (w.heap.size + 1) 1 (.int .i64 en) (by repeat (first | with_reducible exact List.mem_cons_self | with_reducible apply List.mem_cons_of_mem))
  have cs2 := H.cell (w.heap.size + 1) 2 (.int .i64 f) (by repeat (first | with_reducible exact List.mem_cons_self | with_reducible apply List.mem_cons_of_mem))
  have cs3 := H.cell (w.heap.size + 1) 3 (.slice ao n cap) (by repeat (first | with_reducible exact List.mem_cons_self | with_reducible apply List.mem_cons_of_mem))
  have ls := cell_lt cs0
  go_wp2_with fail
  clear cs0 cs1 cs2 cs3 ls
  (with_reducible refine (rday_is a false _ Da.out).mono ?_)
  rintro e va ⟨rfl, rfl⟩
  have cs0 := H.cell (w.heap.size + 1) 0 (.bool t) (by repeat (first | with_reducible exact List.mem_cons_self | with_reducible apply List.mem_cons_of_mem))
  have cs1 := H.cell (w.heap.size + 1) 1 (.int .i64 en) (by repeat (first | with_reducible exact List.mem_cons_self | with_reducible apply List.mem_cons_of_mem))
  have cs2 := H.cell (w.heap.size + 1) 2 (.int .i64 f) (by repeat (first | with_reducible exact List.mem_cons_self | with_reducible apply List.mem_cons_of_mem))
  have cs3 := H.cell (w.heap.size + 1) 3 (.slice ao n cap) (by repeat (first | with_reducible exact List.mem_cons_self | with_reducible apply List.mem_cons_of_mem))
  have ls := cell_lt cs0
  go_wp2_with fail
  clear cs0 cs1 cs2 cs3 ls
  go_ret
  exact ⟨rfl, H.old⟩

set_option maxHeartbeats 4000000 in
set_option maxRecDepth 100000 in
theorem crt_b (K : CWay) (kd0 a b : Int) (t : Bool) (en f : Int) (ao : Option Addr) (n cap : Nat) (X : Nat → Int)  (w : World) (hL : FactsC w) (hR : RowAt w ao X n cap) (bk : 0 ≤ kd0 ∧ kd0 < 256) (h1 : 1 ≤ a ∧ a ≤ 3652059) (h : ¬ (1 ≤ b ∧ b ≤ 3652059)) :
    Calls Tryz.prog 8 #[.agg #[.int .u8 kd0, .int .i64 a, .int .i64 b, .bool t, .int .i64 en, .int .i64 f, .slice ao n cap]] w fun e w' => e = .returned (.bool true) ∧ Below w.heap.size w w' := by
  have H := ((Held.start w).add (f := factsCF) hL).add (f := rowF ao X n cap) hR
  clear hL hR
  have Da : Hid (decide (1 ≤ a ∧ a ≤ 3652059) = true) := Lib.hid (by rw [decide_eq_true_eq]; exact h1)
  have Db : Hid (decide (1 ≤ b ∧ b ≤ 3652059) = false) := Lib.hid (by rw [decide_eq_false_iff_not]; omega)
  go_enter Tryz.func8, Tryz.ntmps8
  go_wp2_with fail
  replace H := (H.alloc (.cells #[.int .u8 kd0, .int .i64 a, .int .i64 b, .bool t, .int .i64 en, .int .i64 f, .slice ao n cap] 54)).quad (w.heap.size + 1) (.bool t) (.int .i64 en) (.int .i64 f) (.slice ao n cap) 24 (by simp)
  (with_reducible refine (coshown_any K _ (H.factsC (by repeat (first | with_reducible exact List.mem_cons_self | with_reducible apply List.mem_cons_of_mem)))).mono ?_)
  rintro e w1 ⟨rfl, hb⟩
  replace H := H.below hb
  clear hb
  have cs0 := H.cell (w.heap.size + 1) 0 (.bool t) (by repeat (first | with_reducible exact List.mem_cons_self | with_reducible apply List.mem_cons_of_mem))
  have cs1 := H.cell (w.heap.size + 1) 1 (.int .i64 en) (by repeat (first | with_reducible exact List.mem_cons_self | with_reducible apply List.mem_cons_of_mem))
  have cs2 := H.cell (w.heap.size + 1) 2 (.int .i64 f) (by repeat (first | with_reducible exact List.mem_cons_self | with_reducible apply List.mem_cons_of_mem))
  have cs3 := H.cell (w.heap.size + 1) 3 (.slice ao n cap) (by repeat (first | with_reducible exact List.mem_cons_self | with_reducible apply List.mem_cons_of_mem))
  have ls := cell_lt cs0
  go_wp2_with fail
  clear cs0 cs1 cs2 cs3 ls
  (with_reducible refine (rday_is a true _ Da.out).mono ?_)
  rintro e va ⟨rfl, rfl⟩
  have cs0 := H.cell (w.heap.size + 1) 0 (.bool t) (by repeat (first | with_reducible exact List.mem_cons_self | with_reducible apply List.mem_cons_of_mem))
  have cs1 := H.cell (w.heap.size + 1) 1 (.int .i64 en) (by repeat (first | with_reducible exact List.mem_cons_self | with_reducible apply List.mem_cons_of_mem))
  have cs2 := H.cell (w.heap.size + 1) 2 (.int .i64 f) (by repeat (first | with_reducible exact List.mem_cons_self | with_reducible apply List.mem_cons_of_mem))
  have cs3 := H.cell (w.heap.size + 1) 3 (.slice ao n cap) (by repeat (first | with_reducible exact List.mem_cons_self | with_reducible apply List.mem_cons_of_mem))
  have ls := cell_lt cs0
  go_wp2_with fail
  clear cs0 cs1 cs2 cs3 ls
  (with_reducible refine (rday_is b false _ Db.out).mono ?_)
  rintro e vb ⟨rfl, rfl⟩
  have cs0 := H.cell (w.heap.size + 1) 0 (.bool t) (by repeat (first | with_reducible exact List.mem_cons_self | with_reducible apply List.mem_cons_of_mem))
  have cs1 := H.cell (w.heap.size + 1) 1 (.int .i64 en) (by repeat (first | with_reducible exact List.mem_cons_self | with_reducible apply List.mem_cons_of_mem))
  have cs2 := H.cell (w.heap.size + 1) 2 (.int .i64 f) (by repeat (first | with_reducible exact List.mem_cons_self | with_reducible apply List.mem_cons_of_mem))
  have cs3 := H.cell (w.heap.size + 1) 3 (.slice ao n cap) (by repeat (first | with_reducible exact List.mem_cons_self | with_reducible apply List.mem_cons_of_mem))
  have ls := cell_lt cs0
  go_wp2_with fail
  clear cs0 cs1 cs2 cs3 ls
  go_ret
  exact ⟨rfl, H.old⟩

set_option maxHeartbeats 4000000 in
set_option maxRecDepth 100000 in
theorem crt_gt (K : CWay) (kd0 a b : Int) (t : Bool) (en f : Int) (ao : Option Addr) (n cap : Nat) (X : Nat → Int)  (w : World) (hL : FactsC w) (hR : RowAt w ao X n cap) (bk : 0 ≤ kd0 ∧ kd0 < 256) (h1 : 1 ≤ a ∧ a ≤ 3652059) (h2 : 1 ≤ b ∧ b ≤ 3652059) (h : b < a) :
    Calls Tryz.prog 8 #[.agg #[.int .u8 kd0, .int .i64 a, .int .i64 b, .bool t, .int .i64 en, .int .i64 f, .slice ao n cap]] w fun e w' => e = .returned (.bool true) ∧ Below w.heap.size w w' := by
  have H := ((Held.start w).add (f := factsCF) hL).add (f := rowF ao X n cap) hR
  clear hL hR
  have Da : Hid (decide (1 ≤ a ∧ a ≤ 3652059) = true) := Lib.hid (by rw [decide_eq_true_eq]; exact h1)
  have Db : Hid (decide (1 ≤ b ∧ b ≤ 3652059) = true) := Lib.hid (by rw [decide_eq_true_eq]; exact h2)
  have q1 : decide (a > b) = true := decide_eq_true h
  go_enter Tryz.func8, Tryz.ntmps8
  go_wp2_with fail
  replace H := (H.alloc (.cells #[.int .u8 kd0, .int .i64 a, .int .i64 b, .bool t, .int .i64 en, .int .i64 f, .slice ao n cap] 54)).quad (w.heap.size + 1) (.bool t) (.int .i64 en) (.int .i64 f) (.slice ao n cap) 24 (by simp)
  (with_reducible refine (coshown_any K _ (H.factsC (by repeat (first | with_reducible exact List.mem_cons_self | with_reducible apply List.mem_cons_of_mem)))).mono ?_)
  rintro e w1 ⟨rfl, hb⟩
  replace H := H.below hb
  clear hb
  have cs0 := H.cell (w.heap.size + 1) 0 (.bool t) (by repeat (first | with_reducible exact List.mem_cons_self | with_reducible apply List.mem_cons_of_mem))
  have cs1 := H.cell (w.heap.size + 1) 1 (.int .i64 en) (by repeat (first | with_reducible exact List.mem_cons_self | with_reducible apply List.mem_cons_of_mem))
  have cs2 := H.cell (w.heap.size + 1) 2 (.int .i64 f) (by repeat (first | with_reducible exact List.mem_cons_self | with_reducible apply List.mem_cons_of_mem))
  have cs3 := H.cell (w.heap.size + 1) 3 (.slice ao n cap) (by repeat (first | with_reducible exact List.mem_cons_self | with_reducible apply List.mem_cons_of_mem))
  have ls := cell_lt cs0
  go_wp2_with fail
  clear cs0 cs1 cs2 cs3 ls
  (with_reducible refine (rday_is a true _ Da.out).mono ?_)
  rintro e va ⟨rfl, rfl⟩
  have cs0 := H.cell (w.heap.size + 1) 0 (.bool t) (by repeat (first | with_reducible exact List.mem_cons_self | with_reducible apply List.mem_cons_of_mem))
  have cs1 := H.cell (w.heap.size + 1) 1 (.int .i64 en) (by repeat (first | with_reducible exact List.mem_cons_self | with_reducible apply List.mem_cons_of_mem))
  have cs2 := H.cell (w.heap.size + 1) 2 (.int .i64 f) (by repeat (first | with_reducible exact List.mem_cons_self | with_reducible apply List.mem_cons_of_mem))
  have cs3 := H.cell (w.heap.size + 1) 3 (.slice ao n cap) (by repeat (first | with_reducible exact List.mem_cons_self | with_reducible apply List.mem_cons_of_mem))
  have ls := cell_lt cs0
  go_wp2_with fail
  clear cs0 cs1 cs2 cs3 ls
  (with_reducible refine (rday_is b true _ Db.out).mono ?_)
  rintro e vb ⟨rfl, rfl⟩
  have cs0 := H.cell (w.heap.size + 1) 0 (.bool t) (by repeat (first | with_reducible exact List.mem_cons_self | with_reducible apply List.mem_cons_of_mem))
  have cs1 := H.cell (w.heap.size + 1) 1 (.int .i64 en) (by repeat (first | with_reducible exact List.mem_cons_self | with_reducible apply List.mem_cons_of_mem))
  have cs2 := H.cell (w.heap.size + 1) 2 (.int .i64 f) (by repeat (first | with_reducible exact List.mem_cons_self | with_reducible apply List.mem_cons_of_mem))
  have cs3 := H.cell (w.heap.size + 1) 3 (.slice ao n cap) (by repeat (first | with_reducible exact List.mem_cons_self | with_reducible apply List.mem_cons_of_mem))
  have ls := cell_lt cs0
  go_wp2_with fail
  clear cs0 cs1 cs2 cs3 ls
  go_ret
  exact ⟨rfl, H.old⟩

set_option maxHeartbeats 4000000 in
set_option maxRecDepth 100000 in
theorem crt_far (K : CWay) (kd0 a b : Int) (t : Bool) (en f : Int) (ao : Option Addr) (n cap : Nat) (X : Nat → Int)  (w : World) (hL : FactsC w) (hR : RowAt w ao X n cap) (bk : 0 ≤ kd0 ∧ kd0 < 256) (h1 : 1 ≤ a ∧ a ≤ 3652059) (h2 : 1 ≤ b ∧ b ≤ 3652059) (h3 : a ≤ b) (h : 36500 < b - a) :
    Calls Tryz.prog 8 #[.agg #[.int .u8 kd0, .int .i64 a, .int .i64 b, .bool t, .int .i64 en, .int .i64 f, .slice ao n cap]] w fun e w' => e = .returned (.bool true) ∧ Below w.heap.size w w' := by
  have H := ((Held.start w).add (f := factsCF) hL).add (f := rowF ao X n cap) hR
  clear hL hR
  have Da : Hid (decide (1 ≤ a ∧ a ≤ 3652059) = true) := Lib.hid (by rw [decide_eq_true_eq]; exact h1)
  have Db : Hid (decide (1 ≤ b ∧ b ≤ 3652059) = true) := Lib.hid (by rw [decide_eq_true_eq]; exact h2)
  have q1 : decide (a > b) = false := decide_eq_false (by omega)
  have q2 : decide (b - a > 36500) = true := decide_eq_true h
  go_enter Tryz.func8, Tryz.ntmps8
  go_wp2_with fail
  replace H := (H.alloc (.cells #[.int .u8 kd0, .int .i64 a, .int .i64 b, .bool t, .int .i64 en, .int .i64 f, .slice ao n cap] 54)).quad (w.heap.size + 1) (.bool t) (.int .i64 en) (.int .i64 f) (.slice ao n cap) 24 (by simp)
  (with_reducible refine (coshown_any K _ (H.factsC (by repeat (first | with_reducible exact List.mem_cons_self | with_reducible apply List.mem_cons_of_mem)))).mono ?_)
  rintro e w1 ⟨rfl, hb⟩
  replace H := H.below hb
  clear hb
  have cs0 := H.cell (w.heap.size + 1) 0 (.bool t) (by repeat (first | with_reducible exact List.mem_cons_self | with_reducible apply List.mem_cons_of_mem))
  have cs1 := H.cell (w.heap.size + 1) 1 (.int .i64 en) (by repeat (first | with_reducible exact List.mem_cons_self | with_reducible apply List.mem_cons_of_mem))
  have cs2 := H.cell (w.heap.size + 1) 2 (.int .i64 f) (by repeat (first | with_reducible exact List.mem_cons_self | with_reducible apply List.mem_cons_of_mem))
  have cs3 := H.cell (w.heap.size + 1) 3 (.slice ao n cap) (by repeat (first | with_reducible exact List.mem_cons_self | with_reducible apply List.mem_cons_of_mem))
  have ls := cell_lt cs0
  go_wp2_with fail
  clear cs0 cs1 cs2 cs3 ls
  (with_reducible refine (rday_is a true _ Da.out).mono ?_)
  rintro e va ⟨rfl, rfl⟩
  have cs0 := H.cell (w.heap.size + 1) 0 (.bool t) (by repeat (first | with_reducible exact List.mem_cons_self | with_reducible apply List.mem_cons_of_mem))
  have cs1 := H.cell (w.heap.size + 1) 1 (.int .i64 en) (by repeat (first | with_reducible exact List.mem_cons_self | with_reducible apply List.mem_cons_of_mem))
  have cs2 := H.cell (w.heap.size + 1) 2 (.int .i64 f) (by repeat (first | with_reducible exact List.mem_cons_self | with_reducible apply List.mem_cons_of_mem))
  have cs3 := H.cell (w.heap.size + 1) 3 (.slice ao n cap) (by repeat (first | with_reducible exact List.mem_cons_self | with_reducible apply List.mem_cons_of_mem))
  have ls := cell_lt cs0
  go_wp2_with fail
  clear cs0 cs1 cs2 cs3 ls
  (with_reducible refine (rday_is b true _ Db.out).mono ?_)
  rintro e vb ⟨rfl, rfl⟩
  have cs0 := H.cell (w.heap.size + 1) 0 (.bool t) (by repeat (first | with_reducible exact List.mem_cons_self | with_reducible apply List.mem_cons_of_mem))
  have cs1 := H.cell (w.heap.size + 1) 1 (.int .i64 en) (by repeat (first | with_reducible exact List.mem_cons_self | with_reducible apply List.mem_cons_of_mem))
  have cs2 := H.cell (w.heap.size + 1) 2 (.int .i64 f) (by repeat (first | with_reducible exact List.mem_cons_self | with_reducible apply List.mem_cons_of_mem))
  have cs3 := H.cell (w.heap.size + 1) 3 (.slice ao n cap) (by repeat (first | with_reducible exact List.mem_cons_self | with_reducible apply List.mem_cons_of_mem))
  have ls := cell_lt cs0
  go_wp2_with fail
  clear cs0 cs1 cs2 cs3 ls
  go_ret
  exact ⟨rfl, H.old⟩

set_option maxHeartbeats 4000000 in
set_option maxRecDepth 100000 in
theorem crt_long (K : CWay) (kd0 a b : Int) (t : Bool) (en f : Int) (ao : Option Addr) (n cap : Nat) (X : Nat → Int)  (w : World) (hL : FactsC w) (hR : RowAt w ao X n cap) (bk : 0 ≤ kd0 ∧ kd0 < 256) (h1 : 1 ≤ a ∧ a ≤ 3652059) (h2 : 1 ≤ b ∧ b ≤ 3652059) (h3 : a ≤ b) (h4 : b - a ≤ 36500) (h : 60 < n) :
    Calls Tryz.prog 8 #[.agg #[.int .u8 kd0, .int .i64 a, .int .i64 b, .bool t, .int .i64 en, .int .i64 f, .slice ao n cap]] w fun e w' => e = .returned (.bool true) ∧ Below w.heap.size w w' := by
  have H := ((Held.start w).add (f := factsCF) hL).add (f := rowF ao X n cap) hR
  clear hL hR
  have Da : Hid (decide (1 ≤ a ∧ a ≤ 3652059) = true) := Lib.hid (by rw [decide_eq_true_eq]; exact h1)
  have Db : Hid (decide (1 ≤ b ∧ b ≤ 3652059) = true) := Lib.hid (by rw [decide_eq_true_eq]; exact h2)
  have q1 : decide (a > b) = false := decide_eq_false (by omega)
  have q2 : decide (b - a > 36500) = false := decide_eq_false (by omega)
  have q3 : decide ((n : Int) > 60) = true := by simp; omega
  go_enter Tryz.func8, Tryz.ntmps8
  go_wp2_with fail
  replace H := (H.alloc (.cells #[.int .u8 kd0, .int .i64 a, .int .i64 b, .bool t, .int .i64 en, .int .i64 f, .slice ao n cap] 54)).quad (w.heap.size + 1) (.bool t) (.int .i64 en) (.int .i64 f) (.slice ao n cap) 24 (by simp)
  (with_reducible refine (coshown_any K _ (H.factsC (by repeat (first | with_reducible exact List.mem_cons_self | with_reducible apply List.mem_cons_of_mem)))).mono ?_)
  rintro e w1 ⟨rfl, hb⟩
  replace H := H.below hb
  clear hb
  have cs0 := H.cell (w.heap.size + 1) 0 (.bool t) (by repeat (first | with_reducible exact List.mem_cons_self | with_reducible apply List.mem_cons_of_mem))
  have cs1 := H.cell (w.heap.size + 1) 1 (.int .i64 en) (by repeat (first | with_reducible exact List.mem_cons_self | with_reducible apply List.mem_cons_of_mem))
  have cs2 := H.cell (w.heap.size + 1) 2 (.int .i64 f) (by repeat (first | with_reducible exact List.mem_cons_self | with_reducible apply List.mem_cons_of_mem))
  have cs3 := H.cell (w.heap.size + 1) 3 (.slice ao n cap) (by repeat (first | with_reducible exact List.mem_cons_self | with_reducible apply List.mem_cons_of_mem))
  have ls := cell_lt cs0
  go_wp2_with fail
  clear cs0 cs1 cs2 cs3 ls
  (with_reducible refine (rday_is a true _ Da.out).mono ?_)
  rintro e va ⟨rfl, rfl⟩
  have cs0 := H.cell (w.heap.size + 1) 0 (.bool t) (by repeat (first | with_reducible exact List.mem_cons_self | with_reducible apply List.mem_cons_of_mem))
  have cs1 := H.cell (w.heap.size + 1) 1 (.int .i64 en) (by repeat (first | with_reducible exact List.mem_cons_self | with_reducible apply List.mem_cons_of_mem))
  have cs2 := H.cell (w.heap.size + 1) 2 (.int .i64 f) (by repeat (first | with_reducible exact List.mem_cons_self | with_reducible apply List.mem_cons_of_mem))
  have cs3 := H.cell (w.heap.size + 1) 3 (.slice ao n cap) (by repeat (first | with_reducible exact List.mem_cons_self | with_reducible apply List.mem_cons_of_mem))
  have ls := cell_lt cs0
  go_wp2_with fail
  clear cs0 cs1 cs2 cs3 ls
  (with_reducible refine (rday_is b true _ Db.out).mono ?_)
  rintro e vb ⟨rfl, rfl⟩
  have cs0 := H.cell (w.heap.size + 1) 0 (.bool t) (by repeat (first | with_reducible exact List.mem_cons_self | with_reducible apply List.mem_cons_of_mem))
  have cs1 := H.cell (w.heap.size + 1) 1 (.int .i64 en) (by repeat (first | with_reducible exact List.mem_cons_self | with_reducible apply List.mem_cons_of_mem))
  have cs2 := H.cell (w.heap.size + 1) 2 (.int .i64 f) (by repeat (first | with_reducible exact List.mem_cons_self | with_reducible apply List.mem_cons_of_mem))
  have cs3 := H.cell (w.heap.size + 1) 3 (.slice ao n cap) (by repeat (first | with_reducible exact List.mem_cons_self | with_reducible apply List.mem_cons_of_mem))
  have ls := cell_lt cs0
  go_wp2_with fail
  clear cs0 cs1 cs2 cs3 ls
  go_ret
  exact ⟨rfl, H.old⟩

set_option maxHeartbeats 4000000 in
set_option maxRecDepth 100000 in
theorem crt_in (K : CWay) (kd0 a b : Int) (t : Bool) (en f : Int) (ao : Option Addr) (n cap : Nat) (X : Nat → Int) (k : Int) (w : World) (hL : FactsC w) (hR : RowAt w ao X n cap) (bk : 0 ≤ kd0 ∧ kd0 < 256) (h1 : 1 ≤ a ∧ a ≤ 3652059) (h2 : 1 ≤ b ∧ b ≤ 3652059) (h3 : a ≤ b) (h4 : b - a ≤ 36500) (h5 : n ≤ 60) (hk : kd0 % 6 = k) :
    Calls Tryz.prog 8 #[.agg #[.int .u8 kd0, .int .i64 a, .int .i64 b, .bool t, .int .i64 en, .int .i64 f, .slice ao n cap]] w fun e w' => e = .returned (.bool true) ∧ Below w.heap.size w w' := by
  have H := ((Held.start w).add (f := factsCF) hL).add (f := rowF ao X n cap) hR
  clear hL hR
  have Da : Hid (decide (1 ≤ a ∧ a ≤ 3652059) = true) := Lib.hid (by rw [decide_eq_true_eq]; exact h1)
  have Db : Hid (decide (1 ≤ b ∧ b ≤ 3652059) = true) := Lib.hid (by rw [decide_eq_true_eq]; exact h2)
  have q1 : decide (a > b) = false := decide_eq_false (by omega)
  have q2 : decide (b - a > 36500) = false := decide_eq_false (by omega)
  have q3 : decide ((n : Int) > 60) = false := by simp; omega
  obtain ⟨p, q, hI, hr, p1, q1', o1, o2⟩ := co_off (k := k) (t := t) (en := en) (f := f) (X := X) (n := n) (by omega) h1 h2 h3 h4
  have hr' := (right_iff p q).1 hr
  have P1 := Lib.hid (fun v hf hR => K.part k a b t en f ao n cap X p q 0 v hf (by unfold i64B; omega) (by omega) hR hI)
  have R1 := Lib.hid hr
  clear hI hr
  obtain ⟨m, hm⟩ : ∃ m, (b - a) * q = m := ⟨_, rfl⟩
  obtain ⟨l, hl⟩ : ∃ l, (60 + (b - a) / 50) * q = l := ⟨_, rfl⟩
  have m0 : 0 ≤ m := by rw [← hm]; exact Int.mul_nonneg (by omega) (by omega)
  have m1 : m ≤ 36500 * 133590 := by rw [← hm]; exact Int.mul_le_mul h4 q1' (by omega) (by decide)
  have l0 : 0 ≤ l := by rw [← hl]; exact Int.mul_nonneg (by omega) (by omega)
  have l1 : l ≤ 790 * 133590 := by rw [← hl]; exact Int.mul_le_mul (by omega) q1' (by omega) (by decide)
  rw [hm] at o1 o2
  rw [hl] at o1 o2
  go_enter Tryz.func8, Tryz.ntmps8
  go_wp2_with fail
  replace H := (H.alloc (.cells #[.int .u8 kd0, .int .i64 a, .int .i64 b, .bool t, .int .i64 en, .int .i64 f, .slice ao n cap] 54)).quad (w.heap.size + 1) (.bool t) (.int .i64 en) (.int .i64 f) (.slice ao n cap) 24 (by simp)
  (with_reducible refine (coshown_any K _ (H.factsC (by repeat (first | with_reducible exact List.mem_cons_self | with_reducible apply List.mem_cons_of_mem)))).mono ?_)
  rintro e w1 ⟨rfl, hb⟩
  replace H := H.below hb
  clear hb
  have cs0 := H.cell (w.heap.size + 1) 0 (.bool t) (by repeat (first | with_reducible exact List.mem_cons_self | with_reducible apply List.mem_cons_of_mem))
  have cs1 := H.cell (w.heap.size + 1) 1 (.int .i64 en) (by repeat (first | with_reducible exact List.mem_cons_self | with_reducible apply List.mem_cons_of_mem))
  have cs2 := H.cell (w.heap.size + 1) 2 (.int .i64 f) (by repeat (first | with_reducible exact List.mem_cons_self | with_reducible apply List.mem_cons_of_mem))
  have cs3 := H.cell (w.heap.size + 1) 3 (.slice ao n cap) (by repeat (first | with_reducible exact List.mem_cons_self | with_reducible apply List.mem_cons_of_mem))
  have ls := cell_lt cs0
  go_wp2_with fail
  clear cs0 cs1 cs2 cs3 ls
  (with_reducible refine (rday_is a true _ Da.out).mono ?_)
  rintro e va ⟨rfl, rfl⟩
  have cs0 := H.cell (w.heap.size + 1) 0 (.bool t) (by repeat (first | with_reducible exact List.mem_cons_self | with_reducible apply List.mem_cons_of_mem))
  have cs1 := H.cell (w.heap.size + 1) 1 (.int .i64 en) (by repeat (first | with_reducible exact List.mem_cons_self | with_reducible apply List.mem_cons_of_mem))
  have cs2 := H.cell (w.heap.size + 1) 2 (.int .i64 f) (by repeat (first | with_reducible exact List.mem_cons_self | with_reducible apply List.mem_cons_of_mem))
  have cs3 := H.cell (w.heap.size + 1) 3 (.slice ao n cap) (by repeat (first | with_reducible exact List.mem_cons_self | with_reducible apply List.mem_cons_of_mem))
  have ls := cell_lt cs0
  go_wp2_with fail
  clear cs0 cs1 cs2 cs3 ls
  (with_reducible refine (rday_is b true _ Db.out).mono ?_)
  rintro e vb ⟨rfl, rfl⟩
  have cs0 := H.cell (w.heap.size + 1) 0 (.bool t) (by repeat (first | with_reducible exact List.mem_cons_self | with_reducible apply List.mem_cons_of_mem))
  have cs1 := H.cell (w.heap.size + 1) 1 (.int .i64 en) (by repeat (first | with_reducible exact List.mem_cons_self | with_reducible apply List.mem_cons_of_mem))
  have cs2 := H.cell (w.heap.size + 1) 2 (.int .i64 f) (by repeat (first | with_reducible exact List.mem_cons_self | with_reducible apply List.mem_cons_of_mem))
  have cs3 := H.cell (w.heap.size + 1) 3 (.slice ao n cap) (by repeat (first | with_reducible exact List.mem_cons_self | with_reducible apply List.mem_cons_of_mem))
  have ls := cell_lt cs0
  go_wp2_with fail
  clear cs0 cs1 cs2 cs3 ls
  (with_reducible refine (P1.out _ (H.factsC (by repeat (first | with_reducible exact List.mem_cons_self | with_reducible apply List.mem_cons_of_mem))) (H.row (by repeat (first | with_reducible exact List.mem_cons_self | with_reducible apply List.mem_cons_of_mem)))).mono ?_)
  rintro e w2 ⟨rfl, hb⟩
  replace H := H.below hb
  clear hb
  have cs0 := H.cell (w.heap.size + 1) 0 (.bool t) (by repeat (first | with_reducible exact List.mem_cons_self | with_reducible apply List.mem_cons_of_mem))
  have cs1 := H.cell (w.heap.size + 1) 1 (.int .i64 en) (by repeat (first | with_reducible exact List.mem_cons_self | with_reducible apply List.mem_cons_of_mem))
  have cs2 := H.cell (w.heap.size + 1) 2 (.int .i64 f) (by repeat (first | with_reducible exact List.mem_cons_self | with_reducible apply List.mem_cons_of_mem))
  have cs3 := H.cell (w.heap.size + 1) 3 (.slice ao n cap) (by repeat (first | with_reducible exact List.mem_cons_self | with_reducible apply List.mem_cons_of_mem))
  have ls := cell_lt cs0
  go_wp2_with fail
  clear cs0 cs1 cs2 cs3 ls
  replace H := H.pair (w2.heap.size) (.int .i64 p) (.int .i64 q) 29 rfl
  (with_reducible refine (rright_is p q true _ R1.out).mono ?_)
  rintro e w3 ⟨rfl, hb⟩
  replace H := H.below hb
  clear hb
  by_cases hs : 360 * p - m < 0
  · have s1 : decide (360 * p - m < 0) = true := decide_eq_true hs
    have s2 : decide (-(360 * p - m) ≤ l) = true := decide_eq_true (by omega)
    have cx0 := H.cell (w2.heap.size) 0 (.int .i64 p) (by repeat (first | with_reducible exact List.mem_cons_self | with_reducible apply List.mem_cons_of_mem))
    have cx1 := H.cell (w2.heap.size) 1 (.int .i64 q) (by repeat (first | with_reducible exact List.mem_cons_self | with_reducible apply List.mem_cons_of_mem))
    have lx := cell_lt cx0
    go_wp2_with fail
    clear cx0 cx1 lx
    go_ret
    exact ⟨rfl, H.old⟩
  · have s1 : decide (360 * p - m < 0) = false := decide_eq_false hs
    have s2 : decide (360 * p - m ≤ l) = true := decide_eq_true (by omega)
    have cx0 := H.cell (w2.heap.size) 0 (.int .i64 p) (by repeat (first | with_reducible exact List.mem_cons_self | with_reducible apply List.mem_cons_of_mem))
    have cx1 := H.cell (w2.heap.size) 1 (.int .i64 q) (by repeat (first | with_reducible exact List.mem_cons_self | with_reducible apply List.mem_cons_of_mem))
    have lx := cell_lt cx0
    go_wp2_with fail
    clear cx0 cx1 lx
    go_ret
    exact ⟨rfl, H.old⟩

theorem cright_walk (K : CWay) (kd0 a b : Int) (t : Bool) (en f : Int) (ao : Option Addr) (n cap : Nat) (X : Nat → Int) (w : World) (hL : FactsC w) (hR : RowAt w ao X n cap) (bk : 0 ≤ kd0 ∧ kd0 < 256) :
    Calls Tryz.prog 8 #[.agg #[.int .u8 kd0, .int .i64 a, .int .i64 b, .bool t, .int .i64 en, .int .i64 f, .slice ao n cap]] w fun e w' => e = .returned (.bool true) ∧ Below w.heap.size w w' := by
  by_cases h1 : 1 ≤ a ∧ a ≤ 3652059
  rotate_left
  · exact crt_a K kd0 a b t en f ao n cap X w hL hR bk h1
  by_cases h2 : 1 ≤ b ∧ b ≤ 3652059
  rotate_left
  · exact crt_b K kd0 a b t en f ao n cap X w hL hR bk h1 h2
  by_cases h3 : b < a
  · exact crt_gt K kd0 a b t en f ao n cap X w hL hR bk h1 h2 h3
  by_cases h4 : 36500 < b - a
  · exact crt_far K kd0 a b t en f ao n cap X w hL hR bk h1 h2 (by omega) h4
  by_cases h5 : 60 < n
  · exact crt_long K kd0 a b t en f ao n cap X w hL hR bk h1 h2 (by omega) (by omega) h5
  · exact crt_in K kd0 a b t en f ao n cap X _ w hL hR bk h1 h2 (by omega) (by omega) (by omega) rfl
end Go.Proofs.YtkmchbllnfoccaaGreatDoor
