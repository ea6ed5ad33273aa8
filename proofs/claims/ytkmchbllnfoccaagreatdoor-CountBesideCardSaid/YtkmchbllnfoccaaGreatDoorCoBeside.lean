/- CountBeside: the walk. -/
import Derived.Test.YtkmchbllnfoccaaGreatDoorCoShown
namespace Go.Proofs.YtkmchbllnfoccaaGreatDoor
open Go.RowKit
set_option linter.unusedVariables false
set_option linter.unusedSimpArgs false


set_option maxHeartbeats 4000000 in
set_option maxRecDepth 100000 in
theorem cbeside_l1 (K : CWay) (kd0 a b : Int) (t1 : Bool) (e1 f1 : Int) (o1 : Option Addr) (n1 c1 : Nat) (X1 : Nat → Int) (t2 : Bool) (e2 f2 : Int) (o2 : Option Addr) (n2 c2 : Nat) (X2 : Nat → Int)  (w : World) (hL : FactsC w) (hR1 : RowAt w o1 X1 n1 c1) (hR2 : RowAt w o2 X2 n2 c2) (bk : 0 ≤ kd0 ∧ kd0 < 256) (hn : 60 < n1) :
    Calls Tryz.prog 5 #[.agg #[.int .u8 kd0, .int .i64 a, .int .i64 b, .bool t1, .int .i64 e1, .int .i64 f1, .slice o1 n1 c1, .bool t2, .int .i64 e2, .int .i64 f2, .slice o2 n2 c2]] w fun e w' => e = .returned (.bool true) ∧ Below w.heap.size w w' := by
  have H := (((Held.start w).add (f := factsCF) hL).add (f := rowF o1 X1 n1 c1) hR1).add (f := rowF o2 X2 n2 c2) hR2
  clear hL hR1 hR2
  go_enter Tryz.func5, Tryz.ntmps5
  go_wp2_with fail
  replace H := ((H.alloc (.cells #[.int .u8 kd0, .int .i64 a, .int .i64 b, .bool t1, .int .i64 e1, .int .i64 f1, .slice o1 n1 c1, .bool t2, .int .i64 e2, .int .i64 f2, .slice o2 n2 c2] 43)).quad (w.heap.size + 1) (.bool t1) (.int .i64 e1) (.int .i64 f1) (.slice o1 n1 c1) 24 (by simp)).quad (w.heap.size + 2) (.bool t2) (.int .i64 e2) (.int .i64 f2) (.slice o2 n2 c2) 24 (by simp)
  (with_reducible refine (coshown_any K _ (H.factsC (by repeat (first | with_reducible exact List.mem_cons_self | with_reducible apply List.mem_cons_of_mem)))).mono ?_)
  rintro e w1 ⟨rfl, hb⟩
  replace H := H.below hb
  clear hb
  have q1 : decide ((n1 : Int) > 60) = true := by simp; omega
  have cs0 := H.cell (w.heap.size + 1) 0 (.bool t1) (by repeat (first | with_reducible exact List.mem_cons_self | with_reducible apply List.mem_cons_of_mem))
  have cs1 := H.cell (w.heap.size + 1) 1 (.int .i64 e1) (by repeat (first | with_reducible exact List.mem_cons_self | with_reducible apply List.mem_cons_of_mem))
  have cs2 := H.cell (w.heap.size + 1) 2 (.int .i64 f1) (by repeat (first | with_reducible exact List.mem_cons_self | with_reducible apply List.mem_cons_of_mem))
  have cs3 := H.cell (w.heap.size + 1) 3 (.slice o1 n1 c1) (by repeat (first | with_reducible exact List.mem_cons_self | with_reducible apply List.mem_cons_of_mem))
  have ls := cell_lt cs0
  have ct0 := H.cell (w.heap.size + 2) 0 (.bool t2) (by repeat (first | with_reducible exact List.mem_cons_self | with_reducible apply List.mem_cons_of_mem))
  have ct1 := H.cell (w.heap.size + 2) 1 (.int .i64 e2) (by repeat (first | with_reducible exact List.mem_cons_self | with_reducible apply List.mem_cons_of_mem))
  have ct2 := H.cell (w.heap.size + 2) 2 (.int .i64 f2) (by repeat (first | with_reducible exact List.mem_cons_self | with_reducible apply List.mem_cons_of_mem))
  have ct3 := H.cell (w.heap.size + 2) 3 (.slice o2 n2 c2) (by repeat (first | with_reducible exact List.mem_cons_self | with_reducible apply List.mem_cons_of_mem))
  have lt := cell_lt ct0
  go_wp2_with fail
  clear cs0 cs1 cs2 cs3 ls ct0 ct1 ct2 ct3 lt
  go_ret
  exact ⟨rfl, H.old⟩

set_option maxHeartbeats 4000000 in
set_option maxRecDepth 100000 in
theorem cbeside_l2 (K : CWay) (kd0 a b : Int) (t1 : Bool) (e1 f1 : Int) (o1 : Option Addr) (n1 c1 : Nat) (X1 : Nat → Int) (t2 : Bool) (e2 f2 : Int) (o2 : Option Addr) (n2 c2 : Nat) (X2 : Nat → Int)  (w : World) (hL : FactsC w) (hR1 : RowAt w o1 X1 n1 c1) (hR2 : RowAt w o2 X2 n2 c2) (bk : 0 ≤ kd0 ∧ kd0 < 256) (h1 : n1 ≤ 60) (hn : 60 < n2) :
    Calls Tryz.prog 5 #[.agg #[.int .u8 kd0, .int .i64 a, .int .i64 b, .bool t1, .int .i64 e1, .int .i64 f1, .slice o1 n1 c1, .bool t2, .int .i64 e2, .int .i64 f2, .slice o2 n2 c2]] w fun e w' => e = .returned (.bool true) ∧ Below w.heap.size w w' := by
  have H := (((Held.start w).add (f := factsCF) hL).add (f := rowF o1 X1 n1 c1) hR1).add (f := rowF o2 X2 n2 c2) hR2
  clear hL hR1 hR2
  go_enter Tryz.func5, Tryz.ntmps5
  go_wp2_with fail
  replace H := ((H.alloc (.cells #[.int .u8 kd0, .int .i64 a, .int .i64 b, .bool t1, .int .i64 e1, .int .i64 f1, .slice o1 n1 c1, .bool t2, .int .i64 e2, .int .i64 f2, .slice o2 n2 c2] 43)).quad (w.heap.size + 1) (.bool t1) (.int .i64 e1) (.int .i64 f1) (.slice o1 n1 c1) 24 (by simp)).quad (w.heap.size + 2) (.bool t2) (.int .i64 e2) (.int .i64 f2) (.slice o2 n2 c2) 24 (by simp)
  (with_reducible refine (coshown_any K _ (H.factsC (by repeat (first | with_reducible exact List.mem_cons_self | with_reducible apply List.mem_cons_of_mem)))).mono ?_)
  rintro e w1 ⟨rfl, hb⟩
  replace H := H.below hb
  clear hb
  have q1 : decide ((n1 : Int) > 60) = false := by simp; omega
  have q2 : decide ((n2 : Int) > 60) = true := by simp; omega
  have cs0 := H.cell (w.heap.size + 1) 0 (.bool t1) (by repeat (first | with_reducible exact List.mem_cons_self | with_reducible apply List.mem_cons_of_mem))
  have cs1 := H.cell (w.heap.size + 1) 1 (.int .i64 e1) (by repeat (first | with_reducible exact List.mem_cons_self | with_reducible apply List.mem_cons_of_mem))
  have cs2 := H.cell (w.heap.size + 1) 2 (.int .i64 f1) (by repeat (first | with_reducible exact List.mem_cons_self | with_reducible apply List.mem_cons_of_mem))
  have cs3 := H.cell (w.heap.size + 1) 3 (.slice o1 n1 c1) (by repeat (first | with_reducible exact List.mem_cons_self | with_reducible apply List.mem_cons_of_mem))
  have ls := cell_lt cs0
  have ct0 := H.cell (w.heap.size + 2) 0 (.bool t2) (by repeat (first | with_reducible exact List.mem_cons_self | with_reducible apply List.mem_cons_of_mem))
  have ct1 := H.cell (w.heap.size + 2) 1 (.int .i64 e2) (by repeat (first | with_reducible exact List.mem_cons_self | with_reducible apply List.mem_cons_of_mem))
  have ct2 := H.cell (w.heap.size + 2) 2 (.int .i64 f2) (by repeat (first | with_reducible exact List.mem_cons_self | with_reducible apply List.mem_cons_of_mem))
  have ct3 := H.cell (w.heap.size + 2) 3 (.slice o2 n2 c2) (by repeat (first | with_reducible exact List.mem_cons_self | with_reducible apply List.mem_cons_of_mem))
  have lt := cell_lt ct0
  go_wp2_with fail
  clear cs0 cs1 cs2 cs3 ls ct0 ct1 ct2 ct3 lt
  go_ret
  exact ⟨rfl, H.old⟩

set_option maxHeartbeats 4000000 in
set_option maxRecDepth 100000 in
theorem cbeside_zero (K : CWay) (kd0 a b : Int) (t1 : Bool) (e1 f1 : Int) (o1 : Option Addr) (n1 c1 : Nat) (X1 : Nat → Int) (t2 : Bool) (e2 f2 : Int) (o2 : Option Addr) (n2 c2 : Nat) (X2 : Nat → Int)  (w : World) (hL : FactsC w) (hR1 : RowAt w o1 X1 n1 c1) (hR2 : RowAt w o2 X2 n2 c2) (bk : 0 ≤ kd0 ∧ kd0 < 256) (h1 : n1 ≤ 60) (h2 : n2 ≤ 60) (hk : kd0 % 7 = 0) :
    Calls Tryz.prog 5 #[.agg #[.int .u8 kd0, .int .i64 a, .int .i64 b, .bool t1, .int .i64 e1, .int .i64 f1, .slice o1 n1 c1, .bool t2, .int .i64 e2, .int .i64 f2, .slice o2 n2 c2]] w fun e w' => e = .returned (.bool true) ∧ Below w.heap.size w w' := by
  have H := (((Held.start w).add (f := factsCF) hL).add (f := rowF o1 X1 n1 c1) hR1).add (f := rowF o2 X2 n2 c2) hR2
  clear hL hR1 hR2
  obtain ⟨p, q, c, hI⟩ := co_is 0 a b t1 e1 f1 X1 n1
  have P1 := Lib.hid (fun v hf hn hr => K.part 0 a b t1 e1 f1 o1 n1 c1 X1 p q c v hf (by unfold i64B; omega) hn hr hI)
  have P2 := Lib.hid (fun v hf hn hr => K.part 0 a b t1 e2 f2 o2 n2 c2 X2 p q c v hf (by unfold i64B; omega) hn hr (co_beside hI (fun _ => rfl) (fun z => absurd z (by decide)) (fun z => absurd z (by decide))))
  clear hI
  go_enter Tryz.func5, Tryz.ntmps5
  go_wp2_with fail
  replace H := ((H.alloc (.cells #[.int .u8 kd0, .int .i64 a, .int .i64 b, .bool t1, .int .i64 e1, .int .i64 f1, .slice o1 n1 c1, .bool t2, .int .i64 e2, .int .i64 f2, .slice o2 n2 c2] 43)).quad (w.heap.size + 1) (.bool t1) (.int .i64 e1) (.int .i64 f1) (.slice o1 n1 c1) 24 (by simp)).quad (w.heap.size + 2) (.bool t2) (.int .i64 e2) (.int .i64 f2) (.slice o2 n2 c2) 24 (by simp)
  (with_reducible refine (coshown_any K _ (H.factsC (by repeat (first | with_reducible exact List.mem_cons_self | with_reducible apply List.mem_cons_of_mem)))).mono ?_)
  rintro e w1 ⟨rfl, hb⟩
  replace H := H.below hb
  clear hb
  have q1 : decide ((n1 : Int) > 60) = false := by simp; omega
  have q2 : decide ((n2 : Int) > 60) = false := by simp; omega
  have cs0 := H.cell (w.heap.size + 1) 0 (.bool t1) (by repeat (first | with_reducible exact List.mem_cons_self | with_reducible apply List.mem_cons_of_mem))
  have cs1 := H.cell (w.heap.size + 1) 1 (.int .i64 e1) (by repeat (first | with_reducible exact List.mem_cons_self | with_reducible apply List.mem_cons_of_mem))
  have cs2 := H.cell (w.heap.size + 1) 2 (.int .i64 f1) (by repeat (first | with_reducible exact List.mem_cons_self | with_reducible apply List.mem_cons_of_mem))
  have cs3 := H.cell (w.heap.size + 1) 3 (.slice o1 n1 c1) (by repeat (first | with_reducible exact List.mem_cons_self | with_reducible apply List.mem_cons_of_mem))
  have ls := cell_lt cs0
  have ct0 := H.cell (w.heap.size + 2) 0 (.bool t2) (by repeat (first | with_reducible exact List.mem_cons_self | with_reducible apply List.mem_cons_of_mem))
  have ct1 := H.cell (w.heap.size + 2) 1 (.int .i64 e2) (by repeat (first | with_reducible exact List.mem_cons_self | with_reducible apply List.mem_cons_of_mem))
  have ct2 := H.cell (w.heap.size + 2) 2 (.int .i64 f2) (by repeat (first | with_reducible exact List.mem_cons_self | with_reducible apply List.mem_cons_of_mem))
  have ct3 := H.cell (w.heap.size + 2) 3 (.slice o2 n2 c2) (by repeat (first | with_reducible exact List.mem_cons_self | with_reducible apply List.mem_cons_of_mem))
  have lt := cell_lt ct0
  go_wp2_with fail
  clear cs0 cs1 cs2 cs3 ls ct0 ct1 ct2 ct3 lt
  replace H := H.quad (w1.heap.size) (.bool t1) (.int .i64 e2) (.int .i64 f2) (.slice o2 n2 c2) 24 rfl
  (with_reducible refine (P1.out _ (H.factsC (by repeat (first | with_reducible exact List.mem_cons_self | with_reducible apply List.mem_cons_of_mem))) (by omega) (H.row (ao := o1) (X := X1) (n := n1) (cap := c1) (by repeat (first | with_reducible exact List.mem_cons_self | with_reducible apply List.mem_cons_of_mem)))).mono ?_)
  rintro e w2 ⟨rfl, hb⟩
  replace H := H.below hb
  clear hb
  have cs0 := H.cell (w.heap.size + 1) 0 (.bool t1) (by repeat (first | with_reducible exact List.mem_cons_self | with_reducible apply List.mem_cons_of_mem))
  have cs1 := H.cell (w.heap.size + 1) 1 (.int .i64 e1) (by repeat (first | with_reducible exact List.mem_cons_self | with_reducible apply List.mem_cons_of_mem))
  have cs2 := H.cell (w.heap.size + 1) 2 (.int .i64 f1) (by repeat (first | with_reducible exact List.mem_cons_self | with_reducible apply List.mem_cons_of_mem))
  have cs3 := H.cell (w.heap.size + 1) 3 (.slice o1 n1 c1) (by repeat (first | with_reducible exact List.mem_cons_self | with_reducible apply List.mem_cons_of_mem))
  have ls := cell_lt cs0
  have cu0 := H.cell (w1.heap.size) 0 (.bool t1) (by repeat (first | with_reducible exact List.mem_cons_self | with_reducible apply List.mem_cons_of_mem))
  have cu1 := H.cell (w1.heap.size) 1 (.int .i64 e2) (by repeat (first | with_reducible exact List.mem_cons_self | with_reducible apply List.mem_cons_of_mem))
  have cu2 := H.cell (w1.heap.size) 2 (.int .i64 f2) (by repeat (first | with_reducible exact List.mem_cons_self | with_reducible apply List.mem_cons_of_mem))
  have cu3 := H.cell (w1.heap.size) 3 (.slice o2 n2 c2) (by repeat (first | with_reducible exact List.mem_cons_self | with_reducible apply List.mem_cons_of_mem))
  have lu := cell_lt cu0
  go_wp2_with fail
  clear cs0 cs1 cs2 cs3 ls cu0 cu1 cu2 cu3 lu
  replace H := H.pair (w2.heap.size) (.int .i64 p) (.int .i64 q) 29 rfl
  (with_reducible refine (P2.out _ (H.factsC (by repeat (first | with_reducible exact List.mem_cons_self | with_reducible apply List.mem_cons_of_mem))) (by omega) (H.row (ao := o2) (X := X2) (n := n2) (cap := c2) (by repeat (first | with_reducible exact List.mem_cons_self | with_reducible apply List.mem_cons_of_mem)))).mono ?_)
  rintro e w3 ⟨rfl, hb⟩
  replace H := H.below hb
  clear hb
  have cx0 := H.cell (w2.heap.size) 0 (.int .i64 p) (by repeat (first | with_reducible exact List.mem_cons_self | with_reducible apply List.mem_cons_of_mem))
  have cx1 := H.cell (w2.heap.size) 1 (.int .i64 q) (by repeat (first | with_reducible exact List.mem_cons_self | with_reducible apply List.mem_cons_of_mem))
  have lx := cell_lt cx0
  go_wp2_with fail
  clear cx0 cx1 lx
  replace H := H.pair (w3.heap.size) (.int .i64 p) (.int .i64 q) 29 rfl
  go_ret
  exact ⟨rfl, H.old⟩

set_option maxHeartbeats 4000000 in
set_option maxRecDepth 100000 in
theorem cbeside_two (K : CWay) (kd0 a b : Int) (t1 : Bool) (e1 f1 : Int) (o1 : Option Addr) (n1 c1 : Nat) (X1 : Nat → Int) (t2 : Bool) (e2 f2 : Int) (o2 : Option Addr) (n2 c2 : Nat) (X2 : Nat → Int)  (w : World) (hL : FactsC w) (hR1 : RowAt w o1 X1 n1 c1) (hR2 : RowAt w o2 X2 n2 c2) (bk : 0 ≤ kd0 ∧ kd0 < 256) (h1 : n1 ≤ 60) (h2 : n2 ≤ 60) (hk : kd0 % 7 = 2) :
    Calls Tryz.prog 5 #[.agg #[.int .u8 kd0, .int .i64 a, .int .i64 b, .bool t1, .int .i64 e1, .int .i64 f1, .slice o1 n1 c1, .bool t2, .int .i64 e2, .int .i64 f2, .slice o2 n2 c2]] w fun e w' => e = .returned (.bool true) ∧ Below w.heap.size w w' := by
  have H := (((Held.start w).add (f := factsCF) hL).add (f := rowF o1 X1 n1 c1) hR1).add (f := rowF o2 X2 n2 c2) hR2
  clear hL hR1 hR2
  obtain ⟨p, q, c, hI⟩ := co_is 2 a b t1 e1 f1 X1 n1
  have P1 := Lib.hid (fun v hf hn hr => K.part 2 a b t1 e1 f1 o1 n1 c1 X1 p q c v hf (by unfold i64B; omega) hn hr hI)
  have P2 := Lib.hid (fun v hf hn hr => K.part 2 a b t2 e1 f2 o2 n2 c2 X2 p q c v hf (by unfold i64B; omega) hn hr (co_beside hI (fun z => absurd z (by decide)) (fun _ => rfl) (fun z => absurd z (by decide))))
  clear hI
  go_enter Tryz.func5, Tryz.ntmps5
  go_wp2_with fail
  replace H := ((H.alloc (.cells #[.int .u8 kd0, .int .i64 a, .int .i64 b, .bool t1, .int .i64 e1, .int .i64 f1, .slice o1 n1 c1, .bool t2, .int .i64 e2, .int .i64 f2, .slice o2 n2 c2] 43)).quad (w.heap.size + 1) (.bool t1) (.int .i64 e1) (.int .i64 f1) (.slice o1 n1 c1) 24 (by simp)).quad (w.heap.size + 2) (.bool t2) (.int .i64 e2) (.int .i64 f2) (.slice o2 n2 c2) 24 (by simp)
  (with_reducible refine (coshown_any K _ (H.factsC (by repeat (first | with_reducible exact List.mem_cons_self | with_reducible apply List.mem_cons_of_mem)))).mono ?_)
  rintro e w1 ⟨rfl, hb⟩
  replace H := H.below hb
  clear hb
  have q1 : decide ((n1 : Int) > 60) = false := by simp; omega
  have q2 : decide ((n2 : Int) > 60) = false := by simp; omega
  have cs0 := H.cell (w.heap.size + 1) 0 (.bool t1) (by repeat (first | with_reducible exact List.mem_cons_self | with_reducible apply List.mem_cons_of_mem))
  have cs1 := H.cell (w.heap.size + 1) 1 (.int .i64 e1) (by repeat (first | with_reducible exact List.mem_cons_self | with_reducible apply List.mem_cons_of_mem))
  have cs2 := H.cell (w.heap.size + 1) 2 (.int .i64 f1) (by repeat (first | with_reducible exact List.mem_cons_self | with_reducible apply List.mem_cons_of_mem))
  have cs3 := H.cell (w.heap.size + 1) 3 (.slice o1 n1 c1) (by repeat (first | with_reducible exact List.mem_cons_self | with_reducible apply List.mem_cons_of_mem))
  have ls := cell_lt cs0
  have ct0 := H.cell (w.heap.size + 2) 0 (.bool t2) (by repeat (first | with_reducible exact List.mem_cons_self | with_reducible apply List.mem_cons_of_mem))
  have ct1 := H.cell (w.heap.size + 2) 1 (.int .i64 e2) (by repeat (first | with_reducible exact List.mem_cons_self | with_reducible apply List.mem_cons_of_mem))
  have ct2 := H.cell (w.heap.size + 2) 2 (.int .i64 f2) (by repeat (first | with_reducible exact List.mem_cons_self | with_reducible apply List.mem_cons_of_mem))
  have ct3 := H.cell (w.heap.size + 2) 3 (.slice o2 n2 c2) (by repeat (first | with_reducible exact List.mem_cons_self | with_reducible apply List.mem_cons_of_mem))
  have lt := cell_lt ct0
  go_wp2_with fail
  clear cs0 cs1 cs2 cs3 ls ct0 ct1 ct2 ct3 lt
  replace H := H.quad (w1.heap.size) (.bool t2) (.int .i64 e1) (.int .i64 f2) (.slice o2 n2 c2) 24 rfl
  (with_reducible refine (P1.out _ (H.factsC (by repeat (first | with_reducible exact List.mem_cons_self | with_reducible apply List.mem_cons_of_mem))) (by omega) (H.row (ao := o1) (X := X1) (n := n1) (cap := c1) (by repeat (first | with_reducible exact List.mem_cons_self | with_reducible apply List.mem_cons_of_mem)))).mono ?_)
  rintro e w2 ⟨rfl, hb⟩
  replace H := H.below hb
  clear hb
  have cs0 := H.cell (w.heap.size + 1) 0 (.bool t1) (by repeat (first | with_reducible exact List.mem_cons_self | with_reducible apply List.mem_cons_of_mem))
  have cs1 := H.cell (w.heap.size + 1) 1 (.int .i64 e1) (by repeat (first | with_reducible exact List.mem_cons_self | with_reducible apply List.mem_cons_of_mem))
  have cs2 := H.cell (w.heap.size + 1) 2 (.int .i64 f1) (by repeat (first | with_reducible exact List.mem_cons_self | with_reducible apply List.mem_cons_of_mem))
  have cs3 := H.cell (w.heap.size + 1) 3 (.slice o1 n1 c1) (by repeat (first | with_reducible exact List.mem_cons_self | with_reducible apply List.mem_cons_of_mem))
  have ls := cell_lt cs0
  have cu0 := H.cell (w1.heap.size) 0 (.bool t2) (by repeat (first | with_reducible exact List.mem_cons_self | with_reducible apply List.mem_cons_of_mem))
  have cu1 := H.cell (w1.heap.size) 1 (.int .i64 e1) (by repeat (first | with_reducible exact List.mem_cons_self | with_reducible apply List.mem_cons_of_mem))
  have cu2 := H.cell (w1.heap.size) 2 (.int .i64 f2) (by repeat (first | with_reducible exact List.mem_cons_self | with_reducible apply List.mem_cons_of_mem))
  have cu3 := H.cell (w1.heap.size) 3 (.slice o2 n2 c2) (by repeat (first | with_reducible exact List.mem_cons_self | with_reducible apply List.mem_cons_of_mem))
  have lu := cell_lt cu0
  go_wp2_with fail
  clear cs0 cs1 cs2 cs3 ls cu0 cu1 cu2 cu3 lu
  replace H := H.pair (w2.heap.size) (.int .i64 p) (.int .i64 q) 29 rfl
  (with_reducible refine (P2.out _ (H.factsC (by repeat (first | with_reducible exact List.mem_cons_self | with_reducible apply List.mem_cons_of_mem))) (by omega) (H.row (ao := o2) (X := X2) (n := n2) (cap := c2) (by repeat (first | with_reducible exact List.mem_cons_self | with_reducible apply List.mem_cons_of_mem)))).mono ?_)
  rintro e w3 ⟨rfl, hb⟩
  replace H := H.below hb
  clear hb
  have cx0 := H.cell (w2.heap.size) 0 (.int .i64 p) (by repeat (first | with_reducible exact List.mem_cons_self | with_reducible apply List.mem_cons_of_mem))
  have cx1 := H.cell (w2.heap.size) 1 (.int .i64 q) (by repeat (first | with_reducible exact List.mem_cons_self | with_reducible apply List.mem_cons_of_mem))
  have lx := cell_lt cx0
  go_wp2_with fail
  clear cx0 cx1 lx
  replace H := H.pair (w3.heap.size) (.int .i64 p) (.int .i64 q) 29 rfl
  go_ret
  exact ⟨rfl, H.old⟩

set_option maxHeartbeats 4000000 in
set_option maxRecDepth 100000 in
theorem cbeside_six (K : CWay) (kd0 a b : Int) (t1 : Bool) (e1 f1 : Int) (o1 : Option Addr) (n1 c1 : Nat) (X1 : Nat → Int) (t2 : Bool) (e2 f2 : Int) (o2 : Option Addr) (n2 c2 : Nat) (X2 : Nat → Int)  (w : World) (hL : FactsC w) (hR1 : RowAt w o1 X1 n1 c1) (hR2 : RowAt w o2 X2 n2 c2) (bk : 0 ≤ kd0 ∧ kd0 < 256) (h1 : n1 ≤ 60) (h2 : n2 ≤ 60) (hk : kd0 % 7 = 6) :
    Calls Tryz.prog 5 #[.agg #[.int .u8 kd0, .int .i64 a, .int .i64 b, .bool t1, .int .i64 e1, .int .i64 f1, .slice o1 n1 c1, .bool t2, .int .i64 e2, .int .i64 f2, .slice o2 n2 c2]] w fun e w' => e = .returned (.bool true) ∧ Below w.heap.size w w' := by
  have H := (((Held.start w).add (f := factsCF) hL).add (f := rowF o1 X1 n1 c1) hR1).add (f := rowF o2 X2 n2 c2) hR2
  clear hL hR1 hR2
  obtain ⟨p, q, c, hI⟩ := co_is 6 a b t1 e1 f1 X1 n1
  have P1 := Lib.hid (fun v hf hn hr => K.part 6 a b t1 e1 f1 o1 n1 c1 X1 p q c v hf (by unfold i64B; omega) hn hr hI)
  have P2 := Lib.hid (fun v hf hn hr => K.part 6 a b t2 e2 f1 o1 n1 c1 X1 p q c v hf (by unfold i64B; omega) hn hr (co_beside hI (fun z => absurd z (by decide)) (fun z => absurd z (by decide)) (fun _ => ⟨rfl, rfl, rfl⟩)))
  clear hI
  go_enter Tryz.func5, Tryz.ntmps5
  go_wp2_with fail
  replace H := ((H.alloc (.cells #[.int .u8 kd0, .int .i64 a, .int .i64 b, .bool t1, .int .i64 e1, .int .i64 f1, .slice o1 n1 c1, .bool t2, .int .i64 e2, .int .i64 f2, .slice o2 n2 c2] 43)).quad (w.heap.size + 1) (.bool t1) (.int .i64 e1) (.int .i64 f1) (.slice o1 n1 c1) 24 (by simp)).quad (w.heap.size + 2) (.bool t2) (.int .i64 e2) (.int .i64 f2) (.slice o2 n2 c2) 24 (by simp)
  (with_reducible refine (coshown_any K _ (H.factsC (by repeat (first | with_reducible exact List.mem_cons_self | with_reducible apply List.mem_cons_of_mem)))).mono ?_)
  rintro e w1 ⟨rfl, hb⟩
  replace H := H.below hb
  clear hb
  have q1 : decide ((n1 : Int) > 60) = false := by simp; omega
  have q2 : decide ((n2 : Int) > 60) = false := by simp; omega
  have cs0 := H.cell (w.heap.size + 1) 0 (.bool t1) (by repeat (first | with_reducible exact List.mem_cons_self | with_reducible apply List.mem_cons_of_mem))
  have cs1 := H.cell (w.heap.size + 1) 1 (.int .i64 e1) (by repeat (first | with_reducible exact List.mem_cons_self | with_reducible apply List.mem_cons_of_mem))
  have cs2 := H.cell (w.heap.size + 1) 2 (.int .i64 f1) (by repeat (first | with_reducible exact List.mem_cons_self | with_reducible apply List.mem_cons_of_mem))
  have cs3 := H.cell (w.heap.size + 1) 3 (.slice o1 n1 c1) (by repeat (first | with_reducible exact List.mem_cons_self | with_reducible apply List.mem_cons_of_mem))
  have ls := cell_lt cs0
  have ct0 := H.cell (w.heap.size + 2) 0 (.bool t2) (by repeat (first | with_reducible exact List.mem_cons_self | with_reducible apply List.mem_cons_of_mem))
  have ct1 := H.cell (w.heap.size + 2) 1 (.int .i64 e2) (by repeat (first | with_reducible exact List.mem_cons_self | with_reducible apply List.mem_cons_of_mem))
  have ct2 := H.cell (w.heap.size + 2) 2 (.int .i64 f2) (by repeat (first | with_reducible exact List.mem_cons_self | with_reducible apply List.mem_cons_of_mem))
  have ct3 := H.cell (w.heap.size + 2) 3 (.slice o2 n2 c2) (by repeat (first | with_reducible exact List.mem_cons_self | with_reducible apply List.mem_cons_of_mem))
  have lt := cell_lt ct0
  go_wp2_with fail
  clear cs0 cs1 cs2 cs3 ls ct0 ct1 ct2 ct3 lt
  replace H := H.quad (w1.heap.size) (.bool t2) (.int .i64 e2) (.int .i64 f1) (.slice o1 n1 c1) 24 rfl
  (with_reducible refine (P1.out _ (H.factsC (by repeat (first | with_reducible exact List.mem_cons_self | with_reducible apply List.mem_cons_of_mem))) (by omega) (H.row (ao := o1) (X := X1) (n := n1) (cap := c1) (by repeat (first | with_reducible exact List.mem_cons_self | with_reducible apply List.mem_cons_of_mem)))).mono ?_)
  rintro e w2 ⟨rfl, hb⟩
  replace H := H.below hb
  clear hb
  have cs0 := H.cell (w.heap.size + 1) 0 (.bool t1) (by repeat (first | with_reducible exact List.mem_cons_self | with_reducible apply List.mem_cons_of_mem))
  have cs1 := H.cell (w.heap.size + 1) 1 (.int .i64 e1) (by repeat (first | with_reducible exact List.mem_cons_self | with_reducible apply List.mem_cons_of_mem))
  have cs2 := H.cell (w.heap.size + 1) 2 (.int .i64 f1) (by repeat (first | with_reducible exact List.mem_cons_self | with_reducible apply List.mem_cons_of_mem))
  have cs3 := H.cell (w.heap.size + 1) 3 (.slice o1 n1 c1) (by repeat (first | with_reducible exact List.mem_cons_self | with_reducible apply List.mem_cons_of_mem))
  have ls := cell_lt cs0
  have cu0 := H.cell (w1.heap.size) 0 (.bool t2) (by repeat (first | with_reducible exact List.mem_cons_self | with_reducible apply List.mem_cons_of_mem))
  have cu1 := H.cell (w1.heap.size) 1 (.int .i64 e2) (by repeat (first | with_reducible exact List.mem_cons_self | with_reducible apply List.mem_cons_of_mem))
  have cu2 := H.cell (w1.heap.size) 2 (.int .i64 f1) (by repeat (first | with_reducible exact List.mem_cons_self | with_reducible apply List.mem_cons_of_mem))
  have cu3 := H.cell (w1.heap.size) 3 (.slice o1 n1 c1) (by repeat (first | with_reducible exact List.mem_cons_self | with_reducible apply List.mem_cons_of_mem))
  have lu := cell_lt cu0
  go_wp2_with fail
  clear cs0 cs1 cs2 cs3 ls cu0 cu1 cu2 cu3 lu
  replace H := H.pair (w2.heap.size) (.int .i64 p) (.int .i64 q) 29 rfl
  (with_reducible refine (P2.out _ (H.factsC (by repeat (first | with_reducible exact List.mem_cons_self | with_reducible apply List.mem_cons_of_mem))) (by omega) (H.row (ao := o1) (X := X1) (n := n1) (cap := c1) (by repeat (first | with_reducible exact List.mem_cons_self | with_reducible apply List.mem_cons_of_mem)))).mono ?_)
  rintro e w3 ⟨rfl, hb⟩
  replace H := H.below hb
  clear hb
  have cx0 := H.cell (w2.heap.size) 0 (.int .i64 p) (by repeat (first | with_reducible exact List.mem_cons_self | with_reducible apply List.mem_cons_of_mem))
  have cx1 := H.cell (w2.heap.size) 1 (.int .i64 q) (by repeat (first | with_reducible exact List.mem_cons_self | with_reducible apply List.mem_cons_of_mem))
  have lx := cell_lt cx0
  go_wp2_with fail
  clear cx0 cx1 lx
  replace H := H.pair (w3.heap.size) (.int .i64 p) (.int .i64 q) 29 rfl
  go_ret
  exact ⟨rfl, H.old⟩

set_option maxHeartbeats 4000000 in
set_option maxRecDepth 100000 in
theorem cbeside_other (K : CWay) (kd0 a b : Int) (t1 : Bool) (e1 f1 : Int) (o1 : Option Addr) (n1 c1 : Nat) (X1 : Nat → Int) (t2 : Bool) (e2 f2 : Int) (o2 : Option Addr) (n2 c2 : Nat) (X2 : Nat → Int) (k : Int) (w : World) (hL : FactsC w) (hR1 : RowAt w o1 X1 n1 c1) (hR2 : RowAt w o2 X2 n2 c2) (bk : 0 ≤ kd0 ∧ kd0 < 256) (h1 : n1 ≤ 60) (h2 : n2 ≤ 60) (hk : kd0 % 7 = k) (k0 : ¬ k = 0) (k2 : ¬ k = 2) (k6 : ¬ k = 6) :
    Calls Tryz.prog 5 #[.agg #[.int .u8 kd0, .int .i64 a, .int .i64 b, .bool t1, .int .i64 e1, .int .i64 f1, .slice o1 n1 c1, .bool t2, .int .i64 e2, .int .i64 f2, .slice o2 n2 c2]] w fun e w' => e = .returned (.bool true) ∧ Below w.heap.size w w' := by
  have H := (((Held.start w).add (f := factsCF) hL).add (f := rowF o1 X1 n1 c1) hR1).add (f := rowF o2 X2 n2 c2) hR2
  clear hL hR1 hR2
  obtain ⟨p, q, c, hI⟩ := co_is k a b t1 e1 f1 X1 n1
  have P1 := Lib.hid (fun v hf hn hr => K.part k a b t1 e1 f1 o1 n1 c1 X1 p q c v hf (by unfold i64B; omega) hn hr hI)
  have P2 := Lib.hid (fun v hf hn hr => K.part k a b t2 e2 f2 o2 n2 c2 X2 p q c v hf (by unfold i64B; omega) hn hr (co_beside hI (fun z => absurd z k0) (fun z => absurd z k2) (fun z => absurd z k6)))
  clear hI
  go_enter Tryz.func5, Tryz.ntmps5
  go_wp2_with fail
  replace H := ((H.alloc (.cells #[.int .u8 kd0, .int .i64 a, .int .i64 b, .bool t1, .int .i64 e1, .int .i64 f1, .slice o1 n1 c1, .bool t2, .int .i64 e2, .int .i64 f2, .slice o2 n2 c2] 43)).quad (w.heap.size + 1) (.bool t1) (.int .i64 e1) (.int .i64 f1) (.slice o1 n1 c1) 24 (by simp)).quad (w.heap.size + 2) (.bool t2) (.int .i64 e2) (.int .i64 f2) (.slice o2 n2 c2) 24 (by simp)
  (with_reducible refine (coshown_any K _ (H.factsC (by repeat (first | with_reducible exact List.mem_cons_self | with_reducible apply List.mem_cons_of_mem)))).mono ?_)
  rintro e w1 ⟨rfl, hb⟩
  replace H := H.below hb
  clear hb
  have q1 : decide ((n1 : Int) > 60) = false := by simp; omega
  have q2 : decide ((n2 : Int) > 60) = false := by simp; omega
  have cs0 := H.cell (w.heap.size + 1) 0 (.bool t1) (by repeat (first | with_reducible exact List.mem_cons_self | with_reducible apply List.mem_cons_of_mem))
  have cs1 := H.cell (w.heap.size + 1) 1 (.int .i64 e1) (by repeat (first | with_reducible exact List.mem_cons_self | with_reducible apply List.mem_cons_of_mem))
  have cs2 := H.cell (w.heap.size + 1) 2 (.int .i64 f1) (by repeat (first | with_reducible exact List.mem_cons_self | with_reducible apply List.mem_cons_of_mem))
  have cs3 := H.cell (w.heap.size + 1) 3 (.slice o1 n1 c1) (by repeat (first | with_reducible exact List.mem_cons_self | with_reducible apply List.mem_cons_of_mem))
  have ls := cell_lt cs0
  have ct0 := H.cell (w.heap.size + 2) 0 (.bool t2) (by repeat (first | with_reducible exact List.mem_cons_self | with_reducible apply List.mem_cons_of_mem))
  have ct1 := H.cell (w.heap.size + 2) 1 (.int .i64 e2) (by repeat (first | with_reducible exact List.mem_cons_self | with_reducible apply List.mem_cons_of_mem))
  have ct2 := H.cell (w.heap.size + 2) 2 (.int .i64 f2) (by repeat (first | with_reducible exact List.mem_cons_self | with_reducible apply List.mem_cons_of_mem))
  have ct3 := H.cell (w.heap.size + 2) 3 (.slice o2 n2 c2) (by repeat (first | with_reducible exact List.mem_cons_self | with_reducible apply List.mem_cons_of_mem))
  have lt := cell_lt ct0
  go_wp2_with fail
  clear cs0 cs1 cs2 cs3 ls ct0 ct1 ct2 ct3 lt
  replace H := H.quad (w1.heap.size) (.bool t2) (.int .i64 e2) (.int .i64 f2) (.slice o2 n2 c2) 24 rfl
  (with_reducible refine (P1.out _ (H.factsC (by repeat (first | with_reducible exact List.mem_cons_self | with_reducible apply List.mem_cons_of_mem))) (by omega) (H.row (ao := o1) (X := X1) (n := n1) (cap := c1) (by repeat (first | with_reducible exact List.mem_cons_self | with_reducible apply List.mem_cons_of_mem)))).mono ?_)
  rintro e w2 ⟨rfl, hb⟩
  replace H := H.below hb
  clear hb
  have cs0 := H.cell (w.heap.size + 1) 0 (.bool t1) (by repeat (first | with_reducible exact List.mem_cons_self | with_reducible apply List.mem_cons_of_mem))
  have cs1 := H.cell (w.heap.size + 1) 1 (.int .i64 e1) (by repeat (first | with_reducible exact List.mem_cons_self | with_reducible apply List.mem_cons_of_mem))
  have cs2 := H.cell (w.heap.size + 1) 2 (.int .i64 f1) (by repeat (first | with_reducible exact List.mem_cons_self | with_reducible apply List.mem_cons_of_mem))
  have cs3 := H.cell (w.heap.size + 1) 3 (.slice o1 n1 c1) (by repeat (first | with_reducible exact List.mem_cons_self | with_reducible apply List.mem_cons_of_mem))
  have ls := cell_lt cs0
  have cu0 := H.cell (w1.heap.size) 0 (.bool t2) (by repeat (first | with_reducible exact List.mem_cons_self | with_reducible apply List.mem_cons_of_mem))
  have cu1 := H.cell (w1.heap.size) 1 (.int .i64 e2) (by repeat (first | with_reducible exact List.mem_cons_self | with_reducible apply List.mem_cons_of_mem))
  have cu2 := H.cell (w1.heap.size) 2 (.int .i64 f2) (by repeat (first | with_reducible exact List.mem_cons_self | with_reducible apply List.mem_cons_of_mem))
  have cu3 := H.cell (w1.heap.size) 3 (.slice o2 n2 c2) (by repeat (first | with_reducible exact List.mem_cons_self | with_reducible apply List.mem_cons_of_mem))
  have lu := cell_lt cu0
  go_wp2_with fail
  clear cs0 cs1 cs2 cs3 ls cu0 cu1 cu2 cu3 lu
  replace H := H.pair (w2.heap.size) (.int .i64 p) (.int .i64 q) 29 rfl
  (with_reducible refine (P2.out _ (H.factsC (by repeat (first | with_reducible exact List.mem_cons_self | with_reducible apply List.mem_cons_of_mem))) (by omega) (H.row (ao := o2) (X := X2) (n := n2) (cap := c2) (by repeat (first | with_reducible exact List.mem_cons_self | with_reducible apply List.mem_cons_of_mem)))).mono ?_)
  rintro e w3 ⟨rfl, hb⟩
  replace H := H.below hb
  clear hb
  have cx0 := H.cell (w2.heap.size) 0 (.int .i64 p) (by repeat (first | with_reducible exact List.mem_cons_self | with_reducible apply List.mem_cons_of_mem))
  have cx1 := H.cell (w2.heap.size) 1 (.int .i64 q) (by repeat (first | with_reducible exact List.mem_cons_self | with_reducible apply List.mem_cons_of_mem))
  have lx := cell_lt cx0
  go_wp2_with fail
  clear cx0 cx1 lx
  replace H := H.pair (w3.heap.size) (.int .i64 p) (.int .i64 q) 29 rfl
  go_ret
  exact ⟨rfl, H.old⟩

theorem cbeside_walk (K : CWay) (kd0 a b : Int) (t1 : Bool) (e1 f1 : Int) (o1 : Option Addr) (n1 c1 : Nat) (X1 : Nat → Int) (t2 : Bool) (e2 f2 : Int) (o2 : Option Addr) (n2 c2 : Nat) (X2 : Nat → Int) (w : World) (hL : FactsC w) (hR1 : RowAt w o1 X1 n1 c1) (hR2 : RowAt w o2 X2 n2 c2) (bk : 0 ≤ kd0 ∧ kd0 < 256) :
    Calls Tryz.prog 5 #[.agg #[.int .u8 kd0, .int .i64 a, .int .i64 b, .bool t1, .int .i64 e1, .int .i64 f1, .slice o1 n1 c1, .bool t2, .int .i64 e2, .int .i64 f2, .slice o2 n2 c2]] w fun e w' => e = .returned (.bool true) ∧ Below w.heap.size w w' := by
  by_cases h1 : 60 < n1
  · exact cbeside_l1 K kd0 a b t1 e1 f1 o1 n1 c1 X1 t2 e2 f2 o2 n2 c2 X2 w hL hR1 hR2 bk h1
  by_cases h2 : 60 < n2
  · exact cbeside_l2 K kd0 a b t1 e1 f1 o1 n1 c1 X1 t2 e2 f2 o2 n2 c2 X2 w hL hR1 hR2 bk (by omega) h2
  by_cases k0 : kd0 % 7 = 0
  · exact cbeside_zero K kd0 a b t1 e1 f1 o1 n1 c1 X1 t2 e2 f2 o2 n2 c2 X2 w hL hR1 hR2 bk (by omega) (by omega) k0
  by_cases k2 : kd0 % 7 = 2
  · exact cbeside_two K kd0 a b t1 e1 f1 o1 n1 c1 X1 t2 e2 f2 o2 n2 c2 X2 w hL hR1 hR2 bk (by omega) (by omega) k2
  by_cases k6 : kd0 % 7 = 6
  · exact cbeside_six K kd0 a b t1 e1 f1 o1 n1 c1 X1 t2 e2 f2 o2 n2 c2 X2 w hL hR1 hR2 bk (by omega) (by omega) k6
  · exact cbeside_other K kd0 a b t1 e1 f1 o1 n1 c1 X1 t2 e2 f2 o2 n2 c2 X2 _ w hL hR1 hR2 bk (by omega) (by omega) rfl k0 k2 k6
end Go.Proofs.YtkmchbllnfoccaaGreatDoor
