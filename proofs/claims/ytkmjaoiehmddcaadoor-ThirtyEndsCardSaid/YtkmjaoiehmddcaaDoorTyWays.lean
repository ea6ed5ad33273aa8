/- Package thirty: the three ways, walked. -/
import Derived.Test.YtkmjaoiehmddcaaDoorTyTell
import Derived.Test.YtkmjaoiehmddcaaDoorMoMonths
namespace Go.Proofs.YtkmjaoiehmddcaaDoor
open Go.RowKit
set_option linter.unusedVariables false
set_option linter.unusedSimpArgs false

set_option maxHeartbeats 1000000 in
set_option maxRecDepth 100000 in
theorem us_no3 (a b : Int) (t : Bool) (w : World) (hL : Lens w) (BC : Hid (∀ v, Lens v → Calls Tryd.prog 26 #[.int .i64 a, .int .i64 b] v fun e' w' => e' = .returned (.tuple #[.agg #[.int .i64 0, .int .i64 0, .bool false, .int .i64 0], .agg #[.int .i64 0, .int .i64 0, .bool false, .int .i64 0], .int .i64 3]) ∧ Below v.heap.size v w'))  :
    Calls Tryd.prog 10 #[.int .i64 a, .int .i64 b, .bool t] w fun e' w' => e' = .returned (.tuple #[.agg #[.int .i64 0, .int .i64 0], .int .i64 3]) ∧ Below w.heap.size w w' := by
  have H := (Held.start w).add (f := lensF) hL
  have hmf : ∀ (fn : Fn) (first cap : Array Value) (w : World), (Instr.makeFunc fn first cap).run Tryd.prog w = .ok (.func fn first cap) w := fun _ _ _ _ => rfl
  clear hL
  go_enter Tryd.func10, Tryd.ntmps10
  go_wp2_with fail
  replace H := (H.pair (w.heap.size) (.int .i64 0) (.int .i64 0) 26 rfl)
  (with_reducible refine (BC.out _ (H.lens (List.Mem.tail _ (List.Mem.tail _ (List.Mem.tail _ (List.Mem.tail _ (List.Mem.head _))))))).mono ?_)
  rintro e w1 ⟨rfl, hb⟩
  replace H := H.below hb
  clear hb
  have cz0 := H.cell (w.heap.size) 0 (.int .i64 0) (List.Mem.head _)
  have cz1 := H.cell (w.heap.size) 1 (.int .i64 0) (List.Mem.tail _ (List.Mem.head _))
  have lz := H.lt (w.heap.size) 0 (.int .i64 0) (List.Mem.head _)
  have fz0 := H.frozen (w.heap.size) 0 (List.Mem.tail _ (List.Mem.tail _ (List.Mem.head _)))
  have fz1 := H.frozen (w.heap.size) 1 (List.Mem.tail _ (List.Mem.tail _ (List.Mem.tail _ (List.Mem.head _))))
  go_wp2_with fail
  have lz2 : w.heap.size < w1.heap.size + 1 := by omega
  exact bodyPost_ret (v := .tuple #[.agg #[.int .i64 0, .int .i64 0], .int .i64 3]) (by simp [results, Tryd.results10, go_sem, cz0, cz1, lz, lz2]) rfl ⟨rfl, ((((H.old.setCell (by simp <;> omega) _).setCell (by simp <;> omega) _).alloc (by simp <;> omega) _).alloc (by simp <;> omega) _)⟩

set_option maxHeartbeats 1000000 in
set_option maxRecDepth 100000 in
theorem e_no3 (a b : Int) (w : World) (hL : Lens w) (BC : Hid (∀ v, Lens v → Calls Tryd.prog 26 #[.int .i64 a, .int .i64 b] v fun e' w' => e' = .returned (.tuple #[.agg #[.int .i64 0, .int .i64 0, .bool false, .int .i64 0], .agg #[.int .i64 0, .int .i64 0, .bool false, .int .i64 0], .int .i64 3]) ∧ Below v.heap.size v w'))  :
    Calls Tryd.prog 12 #[.int .i64 a, .int .i64 b] w fun e' w' => e' = .returned (.tuple #[.agg #[.int .i64 0, .int .i64 0], .int .i64 3]) ∧ Below w.heap.size w w' := by
  have H := (Held.start w).add (f := lensF) hL
  have hmf : ∀ (fn : Fn) (first cap : Array Value) (w : World), (Instr.makeFunc fn first cap).run Tryd.prog w = .ok (.func fn first cap) w := fun _ _ _ _ => rfl
  clear hL
  go_enter Tryd.func12, Tryd.ntmps12
  go_wp2_with fail
  replace H := (H.pair (w.heap.size) (.int .i64 0) (.int .i64 0) 26 rfl)
  (with_reducible refine (BC.out _ (H.lens (List.Mem.tail _ (List.Mem.tail _ (List.Mem.tail _ (List.Mem.tail _ (List.Mem.head _))))))).mono ?_)
  rintro e w1 ⟨rfl, hb⟩
  replace H := H.below hb
  clear hb
  have cz0 := H.cell (w.heap.size) 0 (.int .i64 0) (List.Mem.head _)
  have cz1 := H.cell (w.heap.size) 1 (.int .i64 0) (List.Mem.tail _ (List.Mem.head _))
  have lz := H.lt (w.heap.size) 0 (.int .i64 0) (List.Mem.head _)
  have fz0 := H.frozen (w.heap.size) 0 (List.Mem.tail _ (List.Mem.tail _ (List.Mem.head _)))
  have fz1 := H.frozen (w.heap.size) 1 (List.Mem.tail _ (List.Mem.tail _ (List.Mem.tail _ (List.Mem.head _))))
  go_wp2_with fail
  have lz2 : w.heap.size < w1.heap.size + 1 := by omega
  exact bodyPost_ret (v := .tuple #[.agg #[.int .i64 0, .int .i64 0], .int .i64 3]) (by simp [results, Tryd.results12, go_sem, cz0, cz1, lz, lz2]) rfl ⟨rfl, ((((H.old.setCell (by simp <;> omega) _).setCell (by simp <;> omega) _).alloc (by simp <;> omega) _).alloc (by simp <;> omega) _)⟩

set_option maxHeartbeats 1000000 in
set_option maxRecDepth 100000 in
theorem isda_no3 (a b k : Int) (w : World) (hL : Lens w) (BC : Hid (∀ v, Lens v → Calls Tryd.prog 26 #[.int .i64 a, .int .i64 b] v fun e' w' => e' = .returned (.tuple #[.agg #[.int .i64 0, .int .i64 0, .bool false, .int .i64 0], .agg #[.int .i64 0, .int .i64 0, .bool false, .int .i64 0], .int .i64 3]) ∧ Below v.heap.size v w'))  :
    Calls Tryd.prog 14 #[.int .i64 a, .int .i64 b, .int .i64 k] w fun e' w' => e' = .returned (.tuple #[.agg #[.int .i64 0, .int .i64 0], .int .i64 3]) ∧ Below w.heap.size w w' := by
  have H := (Held.start w).add (f := lensF) hL
  have hmf : ∀ (fn : Fn) (first cap : Array Value) (w : World), (Instr.makeFunc fn first cap).run Tryd.prog w = .ok (.func fn first cap) w := fun _ _ _ _ => rfl
  clear hL
  go_enter Tryd.func14, Tryd.ntmps14
  go_wp2_with fail
  replace H := (H.pair (w.heap.size) (.int .i64 0) (.int .i64 0) 26 rfl)
  (with_reducible refine (BC.out _ (H.lens (List.Mem.tail _ (List.Mem.tail _ (List.Mem.tail _ (List.Mem.tail _ (List.Mem.head _))))))).mono ?_)
  rintro e w1 ⟨rfl, hb⟩
  replace H := H.below hb
  clear hb
  have cz0 := H.cell (w.heap.size) 0 (.int .i64 0) (List.Mem.head _)
  have cz1 := H.cell (w.heap.size) 1 (.int .i64 0) (List.Mem.tail _ (List.Mem.head _))
  have lz := H.lt (w.heap.size) 0 (.int .i64 0) (List.Mem.head _)
  have fz0 := H.frozen (w.heap.size) 0 (List.Mem.tail _ (List.Mem.tail _ (List.Mem.head _)))
  have fz1 := H.frozen (w.heap.size) 1 (List.Mem.tail _ (List.Mem.tail _ (List.Mem.tail _ (List.Mem.head _))))
  go_wp2_with fail
  have lz2 : w.heap.size < w1.heap.size + 1 := by omega
  exact bodyPost_ret (v := .tuple #[.agg #[.int .i64 0, .int .i64 0], .int .i64 3]) (by simp [results, Tryd.results14, go_sem, cz0, cz1, lz, lz2]) rfl ⟨rfl, ((((H.old.setCell (by simp <;> omega) _).setCell (by simp <;> omega) _).alloc (by simp <;> omega) _).alloc (by simp <;> omega) _)⟩

set_option maxHeartbeats 1000000 in
set_option maxRecDepth 100000 in
theorem us_no4 (a b : Int) (t : Bool) (w : World) (hL : Lens w) (BC : Hid (∀ v, Lens v → Calls Tryd.prog 26 #[.int .i64 a, .int .i64 b] v fun e' w' => e' = .returned (.tuple #[.agg #[.int .i64 0, .int .i64 0, .bool false, .int .i64 0], .agg #[.int .i64 0, .int .i64 0, .bool false, .int .i64 0], .int .i64 4]) ∧ Below v.heap.size v w'))  :
    Calls Tryd.prog 10 #[.int .i64 a, .int .i64 b, .bool t] w fun e' w' => e' = .returned (.tuple #[.agg #[.int .i64 0, .int .i64 0], .int .i64 4]) ∧ Below w.heap.size w w' := by
  have H := (Held.start w).add (f := lensF) hL
  have hmf : ∀ (fn : Fn) (first cap : Array Value) (w : World), (Instr.makeFunc fn first cap).run Tryd.prog w = .ok (.func fn first cap) w := fun _ _ _ _ => rfl
  clear hL
  go_enter Tryd.func10, Tryd.ntmps10
  go_wp2_with fail
  replace H := (H.pair (w.heap.size) (.int .i64 0) (.int .i64 0) 26 rfl)
  (with_reducible refine (BC.out _ (H.lens (List.Mem.tail _ (List.Mem.tail _ (List.Mem.tail _ (List.Mem.tail _ (List.Mem.head _))))))).mono ?_)
  rintro e w1 ⟨rfl, hb⟩
  replace H := H.below hb
  clear hb
  have cz0 := H.cell (w.heap.size) 0 (.int .i64 0) (List.Mem.head _)
  have cz1 := H.cell (w.heap.size) 1 (.int .i64 0) (List.Mem.tail _ (List.Mem.head _))
  have lz := H.lt (w.heap.size) 0 (.int .i64 0) (List.Mem.head _)
  have fz0 := H.frozen (w.heap.size) 0 (List.Mem.tail _ (List.Mem.tail _ (List.Mem.head _)))
  have fz1 := H.frozen (w.heap.size) 1 (List.Mem.tail _ (List.Mem.tail _ (List.Mem.tail _ (List.Mem.head _))))
  go_wp2_with fail
  have lz2 : w.heap.size < w1.heap.size + 1 := by omega
  exact bodyPost_ret (v := .tuple #[.agg #[.int .i64 0, .int .i64 0], .int .i64 4]) (by simp [results, Tryd.results10, go_sem, cz0, cz1, lz, lz2]) rfl ⟨rfl, ((((H.old.setCell (by simp <;> omega) _).setCell (by simp <;> omega) _).alloc (by simp <;> omega) _).alloc (by simp <;> omega) _)⟩

set_option maxHeartbeats 1000000 in
set_option maxRecDepth 100000 in
theorem e_no4 (a b : Int) (w : World) (hL : Lens w) (BC : Hid (∀ v, Lens v → Calls Tryd.prog 26 #[.int .i64 a, .int .i64 b] v fun e' w' => e' = .returned (.tuple #[.agg #[.int .i64 0, .int .i64 0, .bool false, .int .i64 0], .agg #[.int .i64 0, .int .i64 0, .bool false, .int .i64 0], .int .i64 4]) ∧ Below v.heap.size v w'))  :
    Calls Tryd.prog 12 #[.int .i64 a, .int .i64 b] w fun e' w' => e' = .returned (.tuple #[.agg #[.int .i64 0, .int .i64 0], .int .i64 4]) ∧ Below w.heap.size w w' := by
  have H := (Held.start w).add (f := lensF) hL
  have hmf : ∀ (fn : Fn) (first cap : Array Value) (w : World), (Instr.makeFunc fn first cap).run Tryd.prog w = .ok (.func fn first cap) w := fun _ _ _ _ => rfl
  clear hL
  go_enter Tryd.func12, Tryd.ntmps12
  go_wp2_with fail
  replace H := (H.pair (w.heap.size) (.int .i64 0) (.int .i64 0) 26 rfl)
  (with_reducible refine (BC.out _ (H.lens (List.Mem.tail _ (List.Mem.tail _ (List.Mem.tail _ (List.Mem.tail _ (List.Mem.head _))))))).mono ?_)
  rintro e w1 ⟨rfl, hb⟩
  replace H := H.below hb
  clear hb
  have cz0 := H.cell (w.heap.size) 0 (.int .i64 0) (List.Mem.head _)
  have cz1 := H.cell (w.heap.size) 1 (.int .i64 0) (List.Mem.tail _ (List.Mem.head _))
  have lz := H.lt (w.heap.size) 0 (.int .i64 0) (List.Mem.head _)
  have fz0 := H.frozen (w.heap.size) 0 (List.Mem.tail _ (List.Mem.tail _ (List.Mem.head _)))
  have fz1 := H.frozen (w.heap.size) 1 (List.Mem.tail _ (List.Mem.tail _ (List.Mem.tail _ (List.Mem.head _))))
  go_wp2_with fail
  have lz2 : w.heap.size < w1.heap.size + 1 := by omega
  exact bodyPost_ret (v := .tuple #[.agg #[.int .i64 0, .int .i64 0], .int .i64 4]) (by simp [results, Tryd.results12, go_sem, cz0, cz1, lz, lz2]) rfl ⟨rfl, ((((H.old.setCell (by simp <;> omega) _).setCell (by simp <;> omega) _).alloc (by simp <;> omega) _).alloc (by simp <;> omega) _)⟩

set_option maxHeartbeats 1000000 in
set_option maxRecDepth 100000 in
theorem isda_no4 (a b k : Int) (w : World) (hL : Lens w) (BC : Hid (∀ v, Lens v → Calls Tryd.prog 26 #[.int .i64 a, .int .i64 b] v fun e' w' => e' = .returned (.tuple #[.agg #[.int .i64 0, .int .i64 0, .bool false, .int .i64 0], .agg #[.int .i64 0, .int .i64 0, .bool false, .int .i64 0], .int .i64 4]) ∧ Below v.heap.size v w'))  :
    Calls Tryd.prog 14 #[.int .i64 a, .int .i64 b, .int .i64 k] w fun e' w' => e' = .returned (.tuple #[.agg #[.int .i64 0, .int .i64 0], .int .i64 4]) ∧ Below w.heap.size w w' := by
  have H := (Held.start w).add (f := lensF) hL
  have hmf : ∀ (fn : Fn) (first cap : Array Value) (w : World), (Instr.makeFunc fn first cap).run Tryd.prog w = .ok (.func fn first cap) w := fun _ _ _ _ => rfl
  clear hL
  go_enter Tryd.func14, Tryd.ntmps14
  go_wp2_with fail
  replace H := (H.pair (w.heap.size) (.int .i64 0) (.int .i64 0) 26 rfl)
  (with_reducible refine (BC.out _ (H.lens (List.Mem.tail _ (List.Mem.tail _ (List.Mem.tail _ (List.Mem.tail _ (List.Mem.head _))))))).mono ?_)
  rintro e w1 ⟨rfl, hb⟩
  replace H := H.below hb
  clear hb
  have cz0 := H.cell (w.heap.size) 0 (.int .i64 0) (List.Mem.head _)
  have cz1 := H.cell (w.heap.size) 1 (.int .i64 0) (List.Mem.tail _ (List.Mem.head _))
  have lz := H.lt (w.heap.size) 0 (.int .i64 0) (List.Mem.head _)
  have fz0 := H.frozen (w.heap.size) 0 (List.Mem.tail _ (List.Mem.tail _ (List.Mem.head _)))
  have fz1 := H.frozen (w.heap.size) 1 (List.Mem.tail _ (List.Mem.tail _ (List.Mem.tail _ (List.Mem.head _))))
  go_wp2_with fail
  have lz2 : w.heap.size < w1.heap.size + 1 := by omega
  exact bodyPost_ret (v := .tuple #[.agg #[.int .i64 0, .int .i64 0], .int .i64 4]) (by simp [results, Tryd.results14, go_sem, cz0, cz1, lz, lz2]) rfl ⟨rfl, ((((H.old.setCell (by simp <;> omega) _).setCell (by simp <;> omega) _).alloc (by simp <;> omega) _).alloc (by simp <;> omega) _)⟩

set_option maxHeartbeats 1000000 in
set_option maxRecDepth 100000 in
theorem e_ok (a b y1 m1 d1 y2 m2 d2 p q : Int) (l1 l2 : Bool) (w : World) (hL : Lens w) (BC : Hid (∀ v, Lens v → Calls Tryd.prog 26 #[.int .i64 a, .int .i64 b] v fun e' w' => e' = .returned (.tuple #[.agg #[.int .i64 m1, .int .i64 d1, .bool l1, .int .i64 y1], .agg #[.int .i64 m2, .int .i64 d2, .bool l2, .int .i64 y2], .int .i64 0]) ∧ Below v.heap.size v w')) (PC : Hid (∀ v, Calls Tryd.prog 31 #[.agg #[.int .i64 m1, .int .i64 d1, .bool l1, .int .i64 y1], .agg #[.int .i64 m2, .int .i64 d2, .bool l2, .int .i64 y2], .func (.methodOf 66 "demurrage/thirty.cut") #[] #[], .func (.methodOf 66 "demurrage/thirty.cut") #[] #[]] v fun e' w' => e' = .returned (.tuple #[.agg #[.int .i64 p, .int .i64 q], .int .i64 0]) ∧ Below v.heap.size v w')) :
    Calls Tryd.prog 12 #[.int .i64 a, .int .i64 b] w fun e' w' => e' = .returned (.tuple #[.agg #[.int .i64 p, .int .i64 q], .int .i64 0]) ∧ Below w.heap.size w w' := by
  have H := (Held.start w).add (f := lensF) hL
  have hmf : ∀ (fn : Fn) (first cap : Array Value) (w : World), (Instr.makeFunc fn first cap).run Tryd.prog w = .ok (.func fn first cap) w := fun _ _ _ _ => rfl
  clear hL
  go_enter Tryd.func12, Tryd.ntmps12
  go_wp2_with fail
  replace H := (H.pair (w.heap.size) (.int .i64 0) (.int .i64 0) 26 rfl)
  (with_reducible refine (BC.out _ (H.lens (List.Mem.tail _ (List.Mem.tail _ (List.Mem.tail _ (List.Mem.tail _ (List.Mem.head _))))))).mono ?_)
  rintro e w1 ⟨rfl, hb⟩
  replace H := H.below hb
  clear hb
  go_wp2_with fail
  replace H := ((H.quad (w1.heap.size) (.int .i64 m1) (.int .i64 d1) (.bool l1) (.int .i64 y1) 66 rfl).quad (w1.heap.size + 1) (.int .i64 m2) (.int .i64 d2) (.bool l2) (.int .i64 y2) 66 (by simp))
  (with_reducible refine (PC.out _).mono ?_)
  rintro e w2 ⟨rfl, hb⟩
  replace H := H.below hb
  clear hb
  have cz0 := H.cell (w.heap.size) 0 (.int .i64 0) (List.Mem.tail _ (List.Mem.tail _ (List.Mem.tail _ (List.Mem.tail _ (List.Mem.tail _ (List.Mem.tail _ (List.Mem.tail _ (List.Mem.tail _ (List.Mem.tail _ (List.Mem.tail _ (List.Mem.tail _ (List.Mem.tail _ (List.Mem.tail _ (List.Mem.tail _ (List.Mem.tail _ (List.Mem.tail _ (List.Mem.head _)))))))))))))))))
  have cz1 := H.cell (w.heap.size) 1 (.int .i64 0) (List.Mem.tail _ (List.Mem.tail _ (List.Mem.tail _ (List.Mem.tail _ (List.Mem.tail _ (List.Mem.tail _ (List.Mem.tail _ (List.Mem.tail _ (List.Mem.tail _ (List.Mem.tail _ (List.Mem.tail _ (List.Mem.tail _ (List.Mem.tail _ (List.Mem.tail _ (List.Mem.tail _ (List.Mem.tail _ (List.Mem.tail _ (List.Mem.head _))))))))))))))))))
  have lz := H.lt (w.heap.size) 0 (.int .i64 0) (List.Mem.tail _ (List.Mem.tail _ (List.Mem.tail _ (List.Mem.tail _ (List.Mem.tail _ (List.Mem.tail _ (List.Mem.tail _ (List.Mem.tail _ (List.Mem.tail _ (List.Mem.tail _ (List.Mem.tail _ (List.Mem.tail _ (List.Mem.tail _ (List.Mem.tail _ (List.Mem.tail _ (List.Mem.tail _ (List.Mem.head _)))))))))))))))))
  have fz0 := H.frozen (w.heap.size) 0 (List.Mem.tail _ (List.Mem.tail _ (List.Mem.tail _ (List.Mem.tail _ (List.Mem.tail _ (List.Mem.tail _ (List.Mem.tail _ (List.Mem.tail _ (List.Mem.tail _ (List.Mem.tail _ (List.Mem.tail _ (List.Mem.tail _ (List.Mem.tail _ (List.Mem.tail _ (List.Mem.tail _ (List.Mem.tail _ (List.Mem.tail _ (List.Mem.tail _ (List.Mem.head _)))))))))))))))))))
  have fz1 := H.frozen (w.heap.size) 1 (List.Mem.tail _ (List.Mem.tail _ (List.Mem.tail _ (List.Mem.tail _ (List.Mem.tail _ (List.Mem.tail _ (List.Mem.tail _ (List.Mem.tail _ (List.Mem.tail _ (List.Mem.tail _ (List.Mem.tail _ (List.Mem.tail _ (List.Mem.tail _ (List.Mem.tail _ (List.Mem.tail _ (List.Mem.tail _ (List.Mem.tail _ (List.Mem.tail _ (List.Mem.tail _ (List.Mem.head _))))))))))))))))))))
  go_wp2_with fail
  exact bodyPost_ret (v := .tuple #[.agg #[.int .i64 p, .int .i64 q], .int .i64 0]) (by simp [results, Tryd.results12, go_sem, cz0, cz1]) rfl ⟨rfl, (H.old.setCell (by simp <;> omega) _).setCell (by simp <;> omega) _⟩

set_option maxHeartbeats 1000000 in
set_option maxRecDepth 100000 in
theorem us_f_own (a b y1 m1 d1 y2 m2 d2 p q : Int) (l1 l2 : Bool) (w : World) (hL : Lens w) (BC : Hid (∀ v, Lens v → Calls Tryd.prog 26 #[.int .i64 a, .int .i64 b] v fun e' w' => e' = .returned (.tuple #[.agg #[.int .i64 m1, .int .i64 d1, .bool l1, .int .i64 y1], .agg #[.int .i64 m2, .int .i64 d2, .bool l2, .int .i64 y2], .int .i64 0]) ∧ Below v.heap.size v w')) (PC : Hid (∀ v, Calls Tryd.prog 31 #[.agg #[.int .i64 m1, .int .i64 d1, .bool l1, .int .i64 y1], .agg #[.int .i64 m2, .int .i64 d2, .bool l2, .int .i64 y2], .func (.methodOf 66 "demurrage/thirty.own") #[] #[], .func (.methodOf 66 "demurrage/thirty.own") #[] #[]] v fun e' w' => e' = .returned (.tuple #[.agg #[.int .i64 p, .int .i64 q], .int .i64 0]) ∧ Below v.heap.size v w')) (hd : ¬ d1 ≥ 30) :
    Calls Tryd.prog 10 #[.int .i64 a, .int .i64 b, .bool false] w fun e' w' => e' = .returned (.tuple #[.agg #[.int .i64 p, .int .i64 q], .int .i64 0]) ∧ Below w.heap.size w w' := by
  have H := (Held.start w).add (f := lensF) hL
  have hmf : ∀ (fn : Fn) (first cap : Array Value) (w : World), (Instr.makeFunc fn first cap).run Tryd.prog w = .ok (.func fn first cap) w := fun _ _ _ _ => rfl
  clear hL
  go_enter Tryd.func10, Tryd.ntmps10
  go_wp2_with fail
  replace H := (H.pair (w.heap.size) (.int .i64 0) (.int .i64 0) 26 rfl)
  (with_reducible refine (BC.out _ (H.lens (List.Mem.tail _ (List.Mem.tail _ (List.Mem.tail _ (List.Mem.tail _ (List.Mem.head _))))))).mono ?_)
  rintro e w1 ⟨rfl, hb⟩
  replace H := H.below hb
  clear hb
  go_wp2_with fail
  replace H := ((H.quad (w1.heap.size) (.int .i64 m1) (.int .i64 d1) (.bool l1) (.int .i64 y1) 66 rfl).quad (w1.heap.size + 1) (.int .i64 m2) (.int .i64 d2) (.bool l2) (.int .i64 y2) 66 (by simp))
  (with_reducible refine (PC.out _).mono ?_)
  rintro e w2 ⟨rfl, hb⟩
  replace H := H.below hb
  clear hb
  have cz0 := H.cell (w.heap.size) 0 (.int .i64 0) (List.Mem.tail _ (List.Mem.tail _ (List.Mem.tail _ (List.Mem.tail _ (List.Mem.tail _ (List.Mem.tail _ (List.Mem.tail _ (List.Mem.tail _ (List.Mem.tail _ (List.Mem.tail _ (List.Mem.tail _ (List.Mem.tail _ (List.Mem.tail _ (List.Mem.tail _ (List.Mem.tail _ (List.Mem.tail _ (List.Mem.head _)))))))))))))))))
  have cz1 := H.cell (w.heap.size) 1 (.int .i64 0) (List.Mem.tail _ (List.Mem.tail _ (List.Mem.tail _ (List.Mem.tail _ (List.Mem.tail _ (List.Mem.tail _ (List.Mem.tail _ (List.Mem.tail _ (List.Mem.tail _ (List.Mem.tail _ (List.Mem.tail _ (List.Mem.tail _ (List.Mem.tail _ (List.Mem.tail _ (List.Mem.tail _ (List.Mem.tail _ (List.Mem.tail _ (List.Mem.head _))))))))))))))))))
  have lz := H.lt (w.heap.size) 0 (.int .i64 0) (List.Mem.tail _ (List.Mem.tail _ (List.Mem.tail _ (List.Mem.tail _ (List.Mem.tail _ (List.Mem.tail _ (List.Mem.tail _ (List.Mem.tail _ (List.Mem.tail _ (List.Mem.tail _ (List.Mem.tail _ (List.Mem.tail _ (List.Mem.tail _ (List.Mem.tail _ (List.Mem.tail _ (List.Mem.tail _ (List.Mem.head _)))))))))))))))))
  have fz0 := H.frozen (w.heap.size) 0 (List.Mem.tail _ (List.Mem.tail _ (List.Mem.tail _ (List.Mem.tail _ (List.Mem.tail _ (List.Mem.tail _ (List.Mem.tail _ (List.Mem.tail _ (List.Mem.tail _ (List.Mem.tail _ (List.Mem.tail _ (List.Mem.tail _ (List.Mem.tail _ (List.Mem.tail _ (List.Mem.tail _ (List.Mem.tail _ (List.Mem.tail _ (List.Mem.tail _ (List.Mem.head _)))))))))))))))))))
  have fz1 := H.frozen (w.heap.size) 1 (List.Mem.tail _ (List.Mem.tail _ (List.Mem.tail _ (List.Mem.tail _ (List.Mem.tail _ (List.Mem.tail _ (List.Mem.tail _ (List.Mem.tail _ (List.Mem.tail _ (List.Mem.tail _ (List.Mem.tail _ (List.Mem.tail _ (List.Mem.tail _ (List.Mem.tail _ (List.Mem.tail _ (List.Mem.tail _ (List.Mem.tail _ (List.Mem.tail _ (List.Mem.tail _ (List.Mem.head _))))))))))))))))))))
  go_wp2_with fail
  exact bodyPost_ret (v := .tuple #[.agg #[.int .i64 p, .int .i64 q], .int .i64 0]) (by simp [results, Tryd.results10, go_sem, cz0, cz1]) rfl ⟨rfl, (H.old.setCell (by simp <;> omega) _).setCell (by simp <;> omega) _⟩

set_option maxHeartbeats 1000000 in
set_option maxRecDepth 100000 in
theorem us_f_cut (a b y1 m1 d1 y2 m2 d2 p q : Int) (l1 l2 : Bool) (w : World) (hL : Lens w) (BC : Hid (∀ v, Lens v → Calls Tryd.prog 26 #[.int .i64 a, .int .i64 b] v fun e' w' => e' = .returned (.tuple #[.agg #[.int .i64 m1, .int .i64 d1, .bool l1, .int .i64 y1], .agg #[.int .i64 m2, .int .i64 d2, .bool l2, .int .i64 y2], .int .i64 0]) ∧ Below v.heap.size v w')) (PC : Hid (∀ v, Calls Tryd.prog 31 #[.agg #[.int .i64 m1, .int .i64 d1, .bool l1, .int .i64 y1], .agg #[.int .i64 m2, .int .i64 d2, .bool l2, .int .i64 y2], .func (.methodOf 66 "demurrage/thirty.cut") #[] #[], .func (.methodOf 66 "demurrage/thirty.cut") #[] #[]] v fun e' w' => e' = .returned (.tuple #[.agg #[.int .i64 p, .int .i64 q], .int .i64 0]) ∧ Below v.heap.size v w')) (hd : d1 ≥ 30) :
    Calls Tryd.prog 10 #[.int .i64 a, .int .i64 b, .bool false] w fun e' w' => e' = .returned (.tuple #[.agg #[.int .i64 p, .int .i64 q], .int .i64 0]) ∧ Below w.heap.size w w' := by
  have H := (Held.start w).add (f := lensF) hL
  have hmf : ∀ (fn : Fn) (first cap : Array Value) (w : World), (Instr.makeFunc fn first cap).run Tryd.prog w = .ok (.func fn first cap) w := fun _ _ _ _ => rfl
  clear hL
  go_enter Tryd.func10, Tryd.ntmps10
  go_wp2_with fail
  replace H := (H.pair (w.heap.size) (.int .i64 0) (.int .i64 0) 26 rfl)
  (with_reducible refine (BC.out _ (H.lens (List.Mem.tail _ (List.Mem.tail _ (List.Mem.tail _ (List.Mem.tail _ (List.Mem.head _))))))).mono ?_)
  rintro e w1 ⟨rfl, hb⟩
  replace H := H.below hb
  clear hb
  go_wp2_with fail
  replace H := ((H.quad (w1.heap.size) (.int .i64 m1) (.int .i64 d1) (.bool l1) (.int .i64 y1) 66 rfl).quad (w1.heap.size + 1) (.int .i64 m2) (.int .i64 d2) (.bool l2) (.int .i64 y2) 66 (by simp))
  (with_reducible refine (PC.out _).mono ?_)
  rintro e w2 ⟨rfl, hb⟩
  replace H := H.below hb
  clear hb
  have cz0 := H.cell (w.heap.size) 0 (.int .i64 0) (List.Mem.tail _ (List.Mem.tail _ (List.Mem.tail _ (List.Mem.tail _ (List.Mem.tail _ (List.Mem.tail _ (List.Mem.tail _ (List.Mem.tail _ (List.Mem.tail _ (List.Mem.tail _ (List.Mem.tail _ (List.Mem.tail _ (List.Mem.tail _ (List.Mem.tail _ (List.Mem.tail _ (List.Mem.tail _ (List.Mem.head _)))))))))))))))))
  have cz1 := H.cell (w.heap.size) 1 (.int .i64 0) (List.Mem.tail _ (List.Mem.tail _ (List.Mem.tail _ (List.Mem.tail _ (List.Mem.tail _ (List.Mem.tail _ (List.Mem.tail _ (List.Mem.tail _ (List.Mem.tail _ (List.Mem.tail _ (List.Mem.tail _ (List.Mem.tail _ (List.Mem.tail _ (List.Mem.tail _ (List.Mem.tail _ (List.Mem.tail _ (List.Mem.tail _ (List.Mem.head _))))))))))))))))))
  have lz := H.lt (w.heap.size) 0 (.int .i64 0) (List.Mem.tail _ (List.Mem.tail _ (List.Mem.tail _ (List.Mem.tail _ (List.Mem.tail _ (List.Mem.tail _ (List.Mem.tail _ (List.Mem.tail _ (List.Mem.tail _ (List.Mem.tail _ (List.Mem.tail _ (List.Mem.tail _ (List.Mem.tail _ (List.Mem.tail _ (List.Mem.tail _ (List.Mem.tail _ (List.Mem.head _)))))))))))))))))
  have fz0 := H.frozen (w.heap.size) 0 (List.Mem.tail _ (List.Mem.tail _ (List.Mem.tail _ (List.Mem.tail _ (List.Mem.tail _ (List.Mem.tail _ (List.Mem.tail _ (List.Mem.tail _ (List.Mem.tail _ (List.Mem.tail _ (List.Mem.tail _ (List.Mem.tail _ (List.Mem.tail _ (List.Mem.tail _ (List.Mem.tail _ (List.Mem.tail _ (List.Mem.tail _ (List.Mem.tail _ (List.Mem.head _)))))))))))))))))))
  have fz1 := H.frozen (w.heap.size) 1 (List.Mem.tail _ (List.Mem.tail _ (List.Mem.tail _ (List.Mem.tail _ (List.Mem.tail _ (List.Mem.tail _ (List.Mem.tail _ (List.Mem.tail _ (List.Mem.tail _ (List.Mem.tail _ (List.Mem.tail _ (List.Mem.tail _ (List.Mem.tail _ (List.Mem.tail _ (List.Mem.tail _ (List.Mem.tail _ (List.Mem.tail _ (List.Mem.tail _ (List.Mem.tail _ (List.Mem.head _))))))))))))))))))))
  go_wp2_with fail
  exact bodyPost_ret (v := .tuple #[.agg #[.int .i64 p, .int .i64 q], .int .i64 0]) (by simp [results, Tryd.results10, go_sem, cz0, cz1]) rfl ⟨rfl, (H.old.setCell (by simp <;> omega) _).setCell (by simp <;> omega) _⟩

set_option maxHeartbeats 1000000 in
set_option maxRecDepth 100000 in
theorem us_t_own (a b y1 m1 d1 y2 m2 d2 p q : Int) (l1 l2 : Bool) (w : World) (hL : Lens w) (BC : Hid (∀ v, Lens v → Calls Tryd.prog 26 #[.int .i64 a, .int .i64 b] v fun e' w' => e' = .returned (.tuple #[.agg #[.int .i64 m1, .int .i64 d1, .bool l1, .int .i64 y1], .agg #[.int .i64 m2, .int .i64 d2, .bool l2, .int .i64 y2], .int .i64 0]) ∧ Below v.heap.size v w')) (PC : Hid (∀ v, Calls Tryd.prog 31 #[.agg #[.int .i64 m1, .int .i64 d1, .bool l1, .int .i64 y1], .agg #[.int .i64 m2, .int .i64 d2, .bool l2, .int .i64 y2], .func (.methodOf 66 "demurrage/thirty.own") #[] #[], .func (.methodOf 66 "demurrage/thirty.own") #[] #[]] v fun e' w' => e' = .returned (.tuple #[.agg #[.int .i64 p, .int .i64 q], .int .i64 0]) ∧ Below v.heap.size v w')) (hf : decide (m1 = 2 ∧ l1 = true) = false) (hd : ¬ d1 ≥ 30) :
    Calls Tryd.prog 10 #[.int .i64 a, .int .i64 b, .bool true] w fun e' w' => e' = .returned (.tuple #[.agg #[.int .i64 p, .int .i64 q], .int .i64 0]) ∧ Below w.heap.size w w' := by
  have H := (Held.start w).add (f := lensF) hL
  have hmf : ∀ (fn : Fn) (first cap : Array Value) (w : World), (Instr.makeFunc fn first cap).run Tryd.prog w = .ok (.func fn first cap) w := fun _ _ _ _ => rfl
  clear hL
  have HF := Lib.hid hf
  clear hf
  go_enter Tryd.func10, Tryd.ntmps10
  go_wp2_with fail
  replace H := (H.pair (w.heap.size) (.int .i64 0) (.int .i64 0) 26 rfl)
  (with_reducible refine (BC.out _ (H.lens (List.Mem.tail _ (List.Mem.tail _ (List.Mem.tail _ (List.Mem.tail _ (List.Mem.head _))))))).mono ?_)
  rintro e w1 ⟨rfl, hb⟩
  replace H := H.below hb
  clear hb
  go_wp2_with fail
  replace H := ((H.quad (w1.heap.size) (.int .i64 m1) (.int .i64 d1) (.bool l1) (.int .i64 y1) 66 rfl).quad (w1.heap.size + 1) (.int .i64 m2) (.int .i64 d2) (.bool l2) (.int .i64 y2) 66 (by simp))
  (with_reducible refine (p_feb m1 d1 l1 false _ HF.out).mono ?_)
  rintro e w2 ⟨rfl, hb⟩
  replace H := H.below hb
  clear hb
  have cf0 := H.cell (w1.heap.size) 0 (.int .i64 m1) (List.Mem.tail _ (List.Mem.tail _ (List.Mem.tail _ (List.Mem.tail _ (List.Mem.tail _ (List.Mem.tail _ (List.Mem.tail _ (List.Mem.tail _ (List.Mem.head _)))))))))
  have cf1 := H.cell (w1.heap.size) 1 (.int .i64 d1) (List.Mem.tail _ (List.Mem.tail _ (List.Mem.tail _ (List.Mem.tail _ (List.Mem.tail _ (List.Mem.tail _ (List.Mem.tail _ (List.Mem.tail _ (List.Mem.tail _ (List.Mem.head _))))))))))
  have cf2 := H.cell (w1.heap.size) 2 (.bool l1) (List.Mem.tail _ (List.Mem.tail _ (List.Mem.tail _ (List.Mem.tail _ (List.Mem.tail _ (List.Mem.tail _ (List.Mem.tail _ (List.Mem.tail _ (List.Mem.tail _ (List.Mem.tail _ (List.Mem.head _)))))))))))
  have cf3 := H.cell (w1.heap.size) 3 (.int .i64 y1) (List.Mem.tail _ (List.Mem.tail _ (List.Mem.tail _ (List.Mem.tail _ (List.Mem.tail _ (List.Mem.tail _ (List.Mem.tail _ (List.Mem.tail _ (List.Mem.tail _ (List.Mem.tail _ (List.Mem.tail _ (List.Mem.head _))))))))))))
  have lf := H.lt (w1.heap.size) 0 (.int .i64 m1) (List.Mem.tail _ (List.Mem.tail _ (List.Mem.tail _ (List.Mem.tail _ (List.Mem.tail _ (List.Mem.tail _ (List.Mem.tail _ (List.Mem.tail _ (List.Mem.head _)))))))))
  have ct0 := H.cell (w1.heap.size + 1) 0 (.int .i64 m2) (List.Mem.head _)
  have ct1 := H.cell (w1.heap.size + 1) 1 (.int .i64 d2) (List.Mem.tail _ (List.Mem.head _))
  have ct2 := H.cell (w1.heap.size + 1) 2 (.bool l2) (List.Mem.tail _ (List.Mem.tail _ (List.Mem.head _)))
  have ct3 := H.cell (w1.heap.size + 1) 3 (.int .i64 y2) (List.Mem.tail _ (List.Mem.tail _ (List.Mem.tail _ (List.Mem.head _))))
  have lt := H.lt (w1.heap.size + 1) 0 (.int .i64 m2) (List.Mem.head _)
  go_wp2_with fail
  clear cf0 cf1 cf2 cf3 lf ct0 ct1 ct2 ct3 lt
  (with_reducible refine (PC.out _).mono ?_)
  rintro e w3 ⟨rfl, hb⟩
  replace H := H.below hb
  clear hb
  have cz0 := H.cell (w.heap.size) 0 (.int .i64 0) (List.Mem.tail _ (List.Mem.tail _ (List.Mem.tail _ (List.Mem.tail _ (List.Mem.tail _ (List.Mem.tail _ (List.Mem.tail _ (List.Mem.tail _ (List.Mem.tail _ (List.Mem.tail _ (List.Mem.tail _ (List.Mem.tail _ (List.Mem.tail _ (List.Mem.tail _ (List.Mem.tail _ (List.Mem.tail _ (List.Mem.head _)))))))))))))))))
  have cz1 := H.cell (w.heap.size) 1 (.int .i64 0) (List.Mem.tail _ (List.Mem.tail _ (List.Mem.tail _ (List.Mem.tail _ (List.Mem.tail _ (List.Mem.tail _ (List.Mem.tail _ (List.Mem.tail _ (List.Mem.tail _ (List.Mem.tail _ (List.Mem.tail _ (List.Mem.tail _ (List.Mem.tail _ (List.Mem.tail _ (List.Mem.tail _ (List.Mem.tail _ (List.Mem.tail _ (List.Mem.head _))))))))))))))))))
  have lz := H.lt (w.heap.size) 0 (.int .i64 0) (List.Mem.tail _ (List.Mem.tail _ (List.Mem.tail _ (List.Mem.tail _ (List.Mem.tail _ (List.Mem.tail _ (List.Mem.tail _ (List.Mem.tail _ (List.Mem.tail _ (List.Mem.tail _ (List.Mem.tail _ (List.Mem.tail _ (List.Mem.tail _ (List.Mem.tail _ (List.Mem.tail _ (List.Mem.tail _ (List.Mem.head _)))))))))))))))))
  have fz0 := H.frozen (w.heap.size) 0 (List.Mem.tail _ (List.Mem.tail _ (List.Mem.tail _ (List.Mem.tail _ (List.Mem.tail _ (List.Mem.tail _ (List.Mem.tail _ (List.Mem.tail _ (List.Mem.tail _ (List.Mem.tail _ (List.Mem.tail _ (List.Mem.tail _ (List.Mem.tail _ (List.Mem.tail _ (List.Mem.tail _ (List.Mem.tail _ (List.Mem.tail _ (List.Mem.tail _ (List.Mem.head _)))))))))))))))))))
  have fz1 := H.frozen (w.heap.size) 1 (List.Mem.tail _ (List.Mem.tail _ (List.Mem.tail _ (List.Mem.tail _ (List.Mem.tail _ (List.Mem.tail _ (List.Mem.tail _ (List.Mem.tail _ (List.Mem.tail _ (List.Mem.tail _ (List.Mem.tail _ (List.Mem.tail _ (List.Mem.tail _ (List.Mem.tail _ (List.Mem.tail _ (List.Mem.tail _ (List.Mem.tail _ (List.Mem.tail _ (List.Mem.tail _ (List.Mem.head _))))))))))))))))))))
  go_wp2_with fail
  exact bodyPost_ret (v := .tuple #[.agg #[.int .i64 p, .int .i64 q], .int .i64 0]) (by simp [results, Tryd.results10, go_sem, cz0, cz1]) rfl ⟨rfl, (H.old.setCell (by simp <;> omega) _).setCell (by simp <;> omega) _⟩

set_option maxHeartbeats 1000000 in
set_option maxRecDepth 100000 in
theorem us_t_cut (a b y1 m1 d1 y2 m2 d2 p q : Int) (l1 l2 : Bool) (w : World) (hL : Lens w) (BC : Hid (∀ v, Lens v → Calls Tryd.prog 26 #[.int .i64 a, .int .i64 b] v fun e' w' => e' = .returned (.tuple #[.agg #[.int .i64 m1, .int .i64 d1, .bool l1, .int .i64 y1], .agg #[.int .i64 m2, .int .i64 d2, .bool l2, .int .i64 y2], .int .i64 0]) ∧ Below v.heap.size v w')) (PC : Hid (∀ v, Calls Tryd.prog 31 #[.agg #[.int .i64 m1, .int .i64 d1, .bool l1, .int .i64 y1], .agg #[.int .i64 m2, .int .i64 d2, .bool l2, .int .i64 y2], .func (.methodOf 66 "demurrage/thirty.cut") #[] #[], .func (.methodOf 66 "demurrage/thirty.cut") #[] #[]] v fun e' w' => e' = .returned (.tuple #[.agg #[.int .i64 p, .int .i64 q], .int .i64 0]) ∧ Below v.heap.size v w')) (hf : decide (m1 = 2 ∧ l1 = true) = false) (hd : d1 ≥ 30) :
    Calls Tryd.prog 10 #[.int .i64 a, .int .i64 b, .bool true] w fun e' w' => e' = .returned (.tuple #[.agg #[.int .i64 p, .int .i64 q], .int .i64 0]) ∧ Below w.heap.size w w' := by
  have H := (Held.start w).add (f := lensF) hL
  have hmf : ∀ (fn : Fn) (first cap : Array Value) (w : World), (Instr.makeFunc fn first cap).run Tryd.prog w = .ok (.func fn first cap) w := fun _ _ _ _ => rfl
  clear hL
  have HF := Lib.hid hf
  clear hf
  go_enter Tryd.func10, Tryd.ntmps10
  go_wp2_with fail
  replace H := (H.pair (w.heap.size) (.int .i64 0) (.int .i64 0) 26 rfl)
  (with_reducible refine (BC.out _ (H.lens (List.Mem.tail _ (List.Mem.tail _ (List.Mem.tail _ (List.Mem.tail _ (List.Mem.head _))))))).mono ?_)
  rintro e w1 ⟨rfl, hb⟩
  replace H := H.below hb
  clear hb
  go_wp2_with fail
  replace H := ((H.quad (w1.heap.size) (.int .i64 m1) (.int .i64 d1) (.bool l1) (.int .i64 y1) 66 rfl).quad (w1.heap.size + 1) (.int .i64 m2) (.int .i64 d2) (.bool l2) (.int .i64 y2) 66 (by simp))
  (with_reducible refine (p_feb m1 d1 l1 false _ HF.out).mono ?_)
  rintro e w2 ⟨rfl, hb⟩
  replace H := H.below hb
  clear hb
  have cf0 := H.cell (w1.heap.size) 0 (.int .i64 m1) (List.Mem.tail _ (List.Mem.tail _ (List.Mem.tail _ (List.Mem.tail _ (List.Mem.tail _ (List.Mem.tail _ (List.Mem.tail _ (List.Mem.tail _ (List.Mem.head _)))))))))
  have cf1 := H.cell (w1.heap.size) 1 (.int .i64 d1) (List.Mem.tail _ (List.Mem.tail _ (List.Mem.tail _ (List.Mem.tail _ (List.Mem.tail _ (List.Mem.tail _ (List.Mem.tail _ (List.Mem.tail _ (List.Mem.tail _ (List.Mem.head _))))))))))
  have cf2 := H.cell (w1.heap.size) 2 (.bool l1) (List.Mem.tail _ (List.Mem.tail _ (List.Mem.tail _ (List.Mem.tail _ (List.Mem.tail _ (List.Mem.tail _ (List.Mem.tail _ (List.Mem.tail _ (List.Mem.tail _ (List.Mem.tail _ (List.Mem.head _)))))))))))
  have cf3 := H.cell (w1.heap.size) 3 (.int .i64 y1) (List.Mem.tail _ (List.Mem.tail _ (List.Mem.tail _ (List.Mem.tail _ (List.Mem.tail _ (List.Mem.tail _ (List.Mem.tail _ (List.Mem.tail _ (List.Mem.tail _ (List.Mem.tail _ (List.Mem.tail _ (List.Mem.head _))))))))))))
  have lf := H.lt (w1.heap.size) 0 (.int .i64 m1) (List.Mem.tail _ (List.Mem.tail _ (List.Mem.tail _ (List.Mem.tail _ (List.Mem.tail _ (List.Mem.tail _ (List.Mem.tail _ (List.Mem.tail _ (List.Mem.head _)))))))))
  have ct0 := H.cell (w1.heap.size + 1) 0 (.int .i64 m2) (List.Mem.head _)
  have ct1 := H.cell (w1.heap.size + 1) 1 (.int .i64 d2) (List.Mem.tail _ (List.Mem.head _))
  have ct2 := H.cell (w1.heap.size + 1) 2 (.bool l2) (List.Mem.tail _ (List.Mem.tail _ (List.Mem.head _)))
  have ct3 := H.cell (w1.heap.size + 1) 3 (.int .i64 y2) (List.Mem.tail _ (List.Mem.tail _ (List.Mem.tail _ (List.Mem.head _))))
  have lt := H.lt (w1.heap.size + 1) 0 (.int .i64 m2) (List.Mem.head _)
  go_wp2_with fail
  clear cf0 cf1 cf2 cf3 lf ct0 ct1 ct2 ct3 lt
  (with_reducible refine (PC.out _).mono ?_)
  rintro e w3 ⟨rfl, hb⟩
  replace H := H.below hb
  clear hb
  have cz0 := H.cell (w.heap.size) 0 (.int .i64 0) (List.Mem.tail _ (List.Mem.tail _ (List.Mem.tail _ (List.Mem.tail _ (List.Mem.tail _ (List.Mem.tail _ (List.Mem.tail _ (List.Mem.tail _ (List.Mem.tail _ (List.Mem.tail _ (List.Mem.tail _ (List.Mem.tail _ (List.Mem.tail _ (List.Mem.tail _ (List.Mem.tail _ (List.Mem.tail _ (List.Mem.head _)))))))))))))))))
  have cz1 := H.cell (w.heap.size) 1 (.int .i64 0) (List.Mem.tail _ (List.Mem.tail _ (List.Mem.tail _ (List.Mem.tail _ (List.Mem.tail _ (List.Mem.tail _ (List.Mem.tail _ (List.Mem.tail _ (List.Mem.tail _ (List.Mem.tail _ (List.Mem.tail _ (List.Mem.tail _ (List.Mem.tail _ (List.Mem.tail _ (List.Mem.tail _ (List.Mem.tail _ (List.Mem.tail _ (List.Mem.head _))))))))))))))))))
  have lz := H.lt (w.heap.size) 0 (.int .i64 0) (List.Mem.tail _ (List.Mem.tail _ (List.Mem.tail _ (List.Mem.tail _ (List.Mem.tail _ (List.Mem.tail _ (List.Mem.tail _ (List.Mem.tail _ (List.Mem.tail _ (List.Mem.tail _ (List.Mem.tail _ (List.Mem.tail _ (List.Mem.tail _ (List.Mem.tail _ (List.Mem.tail _ (List.Mem.tail _ (List.Mem.head _)))))))))))))))))
  have fz0 := H.frozen (w.heap.size) 0 (List.Mem.tail _ (List.Mem.tail _ (List.Mem.tail _ (List.Mem.tail _ (List.Mem.tail _ (List.Mem.tail _ (List.Mem.tail _ (List.Mem.tail _ (List.Mem.tail _ (List.Mem.tail _ (List.Mem.tail _ (List.Mem.tail _ (List.Mem.tail _ (List.Mem.tail _ (List.Mem.tail _ (List.Mem.tail _ (List.Mem.tail _ (List.Mem.tail _ (List.Mem.head _)))))))))))))))))))
  have fz1 := H.frozen (w.heap.size) 1 (List.Mem.tail _ (List.Mem.tail _ (List.Mem.tail _ (List.Mem.tail _ (List.Mem.tail _ (List.Mem.tail _ (List.Mem.tail _ (List.Mem.tail _ (List.Mem.tail _ (List.Mem.tail _ (List.Mem.tail _ (List.Mem.tail _ (List.Mem.tail _ (List.Mem.tail _ (List.Mem.tail _ (List.Mem.tail _ (List.Mem.tail _ (List.Mem.tail _ (List.Mem.tail _ (List.Mem.head _))))))))))))))))))))
  go_wp2_with fail
  exact bodyPost_ret (v := .tuple #[.agg #[.int .i64 p, .int .i64 q], .int .i64 0]) (by simp [results, Tryd.results10, go_sem, cz0, cz1]) rfl ⟨rfl, (H.old.setCell (by simp <;> omega) _).setCell (by simp <;> omega) _⟩

set_option maxHeartbeats 1000000 in
set_option maxRecDepth 100000 in
theorem us_t_full (a b y1 m1 d1 y2 m2 d2 p q : Int) (l1 l2 : Bool) (w : World) (hL : Lens w) (BC : Hid (∀ v, Lens v → Calls Tryd.prog 26 #[.int .i64 a, .int .i64 b] v fun e' w' => e' = .returned (.tuple #[.agg #[.int .i64 m1, .int .i64 d1, .bool l1, .int .i64 y1], .agg #[.int .i64 m2, .int .i64 d2, .bool l2, .int .i64 y2], .int .i64 0]) ∧ Below v.heap.size v w')) (PC : Hid (∀ v, Calls Tryd.prog 31 #[.agg #[.int .i64 m1, .int .i64 d1, .bool l1, .int .i64 y1], .agg #[.int .i64 m2, .int .i64 d2, .bool l2, .int .i64 y2], .func (.methodOf 66 "demurrage/thirty.full") #[] #[], .func (.methodOf 66 "demurrage/thirty.full") #[] #[]] v fun e' w' => e' = .returned (.tuple #[.agg #[.int .i64 p, .int .i64 q], .int .i64 0]) ∧ Below v.heap.size v w')) (hf : decide (m1 = 2 ∧ l1 = true) = true) :
    Calls Tryd.prog 10 #[.int .i64 a, .int .i64 b, .bool true] w fun e' w' => e' = .returned (.tuple #[.agg #[.int .i64 p, .int .i64 q], .int .i64 0]) ∧ Below w.heap.size w w' := by
  have H := (Held.start w).add (f := lensF) hL
  have hmf : ∀ (fn : Fn) (first cap : Array Value) (w : World), (Instr.makeFunc fn first cap).run Tryd.prog w = .ok (.func fn first cap) w := fun _ _ _ _ => rfl
  clear hL
  have HF := Lib.hid hf
  clear hf
  go_enter Tryd.func10, Tryd.ntmps10
  go_wp2_with fail
  replace H := (H.pair (w.heap.size) (.int .i64 0) (.int .i64 0) 26 rfl)
  (with_reducible refine (BC.out _ (H.lens (List.Mem.tail _ (List.Mem.tail _ (List.Mem.tail _ (List.Mem.tail _ (List.Mem.head _))))))).mono ?_)
  rintro e w1 ⟨rfl, hb⟩
  replace H := H.below hb
  clear hb
  go_wp2_with fail
  replace H := ((H.quad (w1.heap.size) (.int .i64 m1) (.int .i64 d1) (.bool l1) (.int .i64 y1) 66 rfl).quad (w1.heap.size + 1) (.int .i64 m2) (.int .i64 d2) (.bool l2) (.int .i64 y2) 66 (by simp))
  (with_reducible refine (p_feb m1 d1 l1 true _ HF.out).mono ?_)
  rintro e w2 ⟨rfl, hb⟩
  replace H := H.below hb
  clear hb
  have cf0 := H.cell (w1.heap.size) 0 (.int .i64 m1) (List.Mem.tail _ (List.Mem.tail _ (List.Mem.tail _ (List.Mem.tail _ (List.Mem.tail _ (List.Mem.tail _ (List.Mem.tail _ (List.Mem.tail _ (List.Mem.head _)))))))))
  have cf1 := H.cell (w1.heap.size) 1 (.int .i64 d1) (List.Mem.tail _ (List.Mem.tail _ (List.Mem.tail _ (List.Mem.tail _ (List.Mem.tail _ (List.Mem.tail _ (List.Mem.tail _ (List.Mem.tail _ (List.Mem.tail _ (List.Mem.head _))))))))))
  have cf2 := H.cell (w1.heap.size) 2 (.bool l1) (List.Mem.tail _ (List.Mem.tail _ (List.Mem.tail _ (List.Mem.tail _ (List.Mem.tail _ (List.Mem.tail _ (List.Mem.tail _ (List.Mem.tail _ (List.Mem.tail _ (List.Mem.tail _ (List.Mem.head _)))))))))))
  have cf3 := H.cell (w1.heap.size) 3 (.int .i64 y1) (List.Mem.tail _ (List.Mem.tail _ (List.Mem.tail _ (List.Mem.tail _ (List.Mem.tail _ (List.Mem.tail _ (List.Mem.tail _ (List.Mem.tail _ (List.Mem.tail _ (List.Mem.tail _ (List.Mem.tail _ (List.Mem.head _))))))))))))
  have lf := H.lt (w1.heap.size) 0 (.int .i64 m1) (List.Mem.tail _ (List.Mem.tail _ (List.Mem.tail _ (List.Mem.tail _ (List.Mem.tail _ (List.Mem.tail _ (List.Mem.tail _ (List.Mem.tail _ (List.Mem.head _)))))))))
  have ct0 := H.cell (w1.heap.size + 1) 0 (.int .i64 m2) (List.Mem.head _)
  have ct1 := H.cell (w1.heap.size + 1) 1 (.int .i64 d2) (List.Mem.tail _ (List.Mem.head _))
  have ct2 := H.cell (w1.heap.size + 1) 2 (.bool l2) (List.Mem.tail _ (List.Mem.tail _ (List.Mem.head _)))
  have ct3 := H.cell (w1.heap.size + 1) 3 (.int .i64 y2) (List.Mem.tail _ (List.Mem.tail _ (List.Mem.tail _ (List.Mem.head _))))
  have lt := H.lt (w1.heap.size + 1) 0 (.int .i64 m2) (List.Mem.head _)
  go_wp2_with fail
  clear cf0 cf1 cf2 cf3 lf ct0 ct1 ct2 ct3 lt
  (with_reducible refine (PC.out _).mono ?_)
  rintro e w3 ⟨rfl, hb⟩
  replace H := H.below hb
  clear hb
  have cz0 := H.cell (w.heap.size) 0 (.int .i64 0) (List.Mem.tail _ (List.Mem.tail _ (List.Mem.tail _ (List.Mem.tail _ (List.Mem.tail _ (List.Mem.tail _ (List.Mem.tail _ (List.Mem.tail _ (List.Mem.tail _ (List.Mem.tail _ (List.Mem.tail _ (List.Mem.tail _ (List.Mem.tail _ (List.Mem.tail _ (List.Mem.tail _ (List.Mem.tail _ (List.Mem.head _)))))))))))))))))
  have cz1 := H.cell (w.heap.size) 1 (.int .i64 0) (List.Mem.tail _ (List.Mem.tail _ (List.Mem.tail _ (List.Mem.tail _ (List.Mem.tail _ (List.Mem.tail _ (List.Mem.tail _ (List.Mem.tail _ (List.Mem.tail _ (List.Mem.tail _ (List.Mem.tail _ (List.Mem.tail _ (List.Mem.tail _ (List.Mem.tail _ (List.Mem.tail _ (List.Mem.tail _ (List.Mem.tail _ (List.Mem.head _))))))))))))))))))
  have lz := H.lt (w.heap.size) 0 (.int .i64 0) (List.Mem.tail _ (List.Mem.tail _ (List.Mem.tail _ (List.Mem.tail _ (List.Mem.tail _ (List.Mem.tail _ (List.Mem.tail _ (List.Mem.tail _ (List.Mem.tail _ (List.Mem.tail _ (List.Mem.tail _ (List.Mem.tail _ (List.Mem.tail _ (List.Mem.tail _ (List.Mem.tail _ (List.Mem.tail _ (List.Mem.head _)))))))))))))))))
  have fz0 := H.frozen (w.heap.size) 0 (List.Mem.tail _ (List.Mem.tail _ (List.Mem.tail _ (List.Mem.tail _ (List.Mem.tail _ (List.Mem.tail _ (List.Mem.tail _ (List.Mem.tail _ (List.Mem.tail _ (List.Mem.tail _ (List.Mem.tail _ (List.Mem.tail _ (List.Mem.tail _ (List.Mem.tail _ (List.Mem.tail _ (List.Mem.tail _ (List.Mem.tail _ (List.Mem.tail _ (List.Mem.head _)))))))))))))))))))
  have fz1 := H.frozen (w.heap.size) 1 (List.Mem.tail _ (List.Mem.tail _ (List.Mem.tail _ (List.Mem.tail _ (List.Mem.tail _ (List.Mem.tail _ (List.Mem.tail _ (List.Mem.tail _ (List.Mem.tail _ (List.Mem.tail _ (List.Mem.tail _ (List.Mem.tail _ (List.Mem.tail _ (List.Mem.tail _ (List.Mem.tail _ (List.Mem.tail _ (List.Mem.tail _ (List.Mem.tail _ (List.Mem.tail _ (List.Mem.head _))))))))))))))))))))
  go_wp2_with fail
  exact bodyPost_ret (v := .tuple #[.agg #[.int .i64 p, .int .i64 q], .int .i64 0]) (by simp [results, Tryd.results10, go_sem, cz0, cz1]) rfl ⟨rfl, (H.old.setCell (by simp <;> omega) _).setCell (by simp <;> omega) _⟩

set_option maxHeartbeats 1000000 in
set_option maxRecDepth 100000 in
theorem isda_own (a b y1 m1 d1 y2 d2 p q : Int) (l1 l2 : Bool) (w : World) (hL : Lens w) (BC : Hid (∀ v, Lens v → Calls Tryd.prog 26 #[.int .i64 a, .int .i64 b] v fun e' w' => e' = .returned (.tuple #[.agg #[.int .i64 m1, .int .i64 d1, .bool l1, .int .i64 y1], .agg #[.int .i64 2, .int .i64 d2, .bool l2, .int .i64 y2], .int .i64 0]) ∧ Below v.heap.size v w')) (PC : Hid (∀ v, Calls Tryd.prog 31 #[.agg #[.int .i64 m1, .int .i64 d1, .bool l1, .int .i64 y1], .agg #[.int .i64 2, .int .i64 d2, .bool l2, .int .i64 y2], .func (.methodOf 66 "demurrage/thirty.full") #[] #[], .func (.methodOf 66 "demurrage/thirty.own") #[] #[]] v fun e' w' => e' = .returned (.tuple #[.agg #[.int .i64 p, .int .i64 q], .int .i64 0]) ∧ Below v.heap.size v w')) :
    Calls Tryd.prog 14 #[.int .i64 a, .int .i64 b, .int .i64 b] w fun e' w' => e' = .returned (.tuple #[.agg #[.int .i64 p, .int .i64 q], .int .i64 0]) ∧ Below w.heap.size w w' := by
  have H := (Held.start w).add (f := lensF) hL
  have hmf : ∀ (fn : Fn) (first cap : Array Value) (w : World), (Instr.makeFunc fn first cap).run Tryd.prog w = .ok (.func fn first cap) w := fun _ _ _ _ => rfl
  clear hL
  go_enter Tryd.func14, Tryd.ntmps14
  go_wp2_with fail
  replace H := (H.pair (w.heap.size) (.int .i64 0) (.int .i64 0) 26 rfl)
  (with_reducible refine (BC.out _ (H.lens (List.Mem.tail _ (List.Mem.tail _ (List.Mem.tail _ (List.Mem.tail _ (List.Mem.head _))))))).mono ?_)
  rintro e w1 ⟨rfl, hb⟩
  replace H := H.below hb
  clear hb
  go_wp2_with fail
  replace H := ((H.quad (w1.heap.size) (.int .i64 m1) (.int .i64 d1) (.bool l1) (.int .i64 y1) 66 rfl).quad (w1.heap.size + 1) (.int .i64 2) (.int .i64 d2) (.bool l2) (.int .i64 y2) 66 (by simp))
  (with_reducible refine (PC.out _).mono ?_)
  rintro e w2 ⟨rfl, hb⟩
  replace H := H.below hb
  clear hb
  have cz0 := H.cell (w.heap.size) 0 (.int .i64 0) (List.Mem.tail _ (List.Mem.tail _ (List.Mem.tail _ (List.Mem.tail _ (List.Mem.tail _ (List.Mem.tail _ (List.Mem.tail _ (List.Mem.tail _ (List.Mem.tail _ (List.Mem.tail _ (List.Mem.tail _ (List.Mem.tail _ (List.Mem.tail _ (List.Mem.tail _ (List.Mem.tail _ (List.Mem.tail _ (List.Mem.head _)))))))))))))))))
  have cz1 := H.cell (w.heap.size) 1 (.int .i64 0) (List.Mem.tail _ (List.Mem.tail _ (List.Mem.tail _ (List.Mem.tail _ (List.Mem.tail _ (List.Mem.tail _ (List.Mem.tail _ (List.Mem.tail _ (List.Mem.tail _ (List.Mem.tail _ (List.Mem.tail _ (List.Mem.tail _ (List.Mem.tail _ (List.Mem.tail _ (List.Mem.tail _ (List.Mem.tail _ (List.Mem.tail _ (List.Mem.head _))))))))))))))))))
  have lz := H.lt (w.heap.size) 0 (.int .i64 0) (List.Mem.tail _ (List.Mem.tail _ (List.Mem.tail _ (List.Mem.tail _ (List.Mem.tail _ (List.Mem.tail _ (List.Mem.tail _ (List.Mem.tail _ (List.Mem.tail _ (List.Mem.tail _ (List.Mem.tail _ (List.Mem.tail _ (List.Mem.tail _ (List.Mem.tail _ (List.Mem.tail _ (List.Mem.tail _ (List.Mem.head _)))))))))))))))))
  have fz0 := H.frozen (w.heap.size) 0 (List.Mem.tail _ (List.Mem.tail _ (List.Mem.tail _ (List.Mem.tail _ (List.Mem.tail _ (List.Mem.tail _ (List.Mem.tail _ (List.Mem.tail _ (List.Mem.tail _ (List.Mem.tail _ (List.Mem.tail _ (List.Mem.tail _ (List.Mem.tail _ (List.Mem.tail _ (List.Mem.tail _ (List.Mem.tail _ (List.Mem.tail _ (List.Mem.tail _ (List.Mem.head _)))))))))))))))))))
  have fz1 := H.frozen (w.heap.size) 1 (List.Mem.tail _ (List.Mem.tail _ (List.Mem.tail _ (List.Mem.tail _ (List.Mem.tail _ (List.Mem.tail _ (List.Mem.tail _ (List.Mem.tail _ (List.Mem.tail _ (List.Mem.tail _ (List.Mem.tail _ (List.Mem.tail _ (List.Mem.tail _ (List.Mem.tail _ (List.Mem.tail _ (List.Mem.tail _ (List.Mem.tail _ (List.Mem.tail _ (List.Mem.tail _ (List.Mem.head _))))))))))))))))))))
  go_wp2_with fail
  exact bodyPost_ret (v := .tuple #[.agg #[.int .i64 p, .int .i64 q], .int .i64 0]) (by simp [results, Tryd.results14, go_sem, cz0, cz1]) rfl ⟨rfl, (H.old.setCell (by simp <;> omega) _).setCell (by simp <;> omega) _⟩

set_option maxHeartbeats 1000000 in
set_option maxRecDepth 100000 in
theorem isda_end (a b y1 m1 d1 y2 m2 d2 p q : Int) (l1 l2 : Bool) (w : World) (hL : Lens w) (BC : Hid (∀ v, Lens v → Calls Tryd.prog 26 #[.int .i64 a, .int .i64 b] v fun e' w' => e' = .returned (.tuple #[.agg #[.int .i64 m1, .int .i64 d1, .bool l1, .int .i64 y1], .agg #[.int .i64 m2, .int .i64 d2, .bool l2, .int .i64 y2], .int .i64 0]) ∧ Below v.heap.size v w')) (PC : Hid (∀ v, Calls Tryd.prog 31 #[.agg #[.int .i64 m1, .int .i64 d1, .bool l1, .int .i64 y1], .agg #[.int .i64 m2, .int .i64 d2, .bool l2, .int .i64 y2], .func (.methodOf 66 "demurrage/thirty.full") #[] #[], .func (.methodOf 66 "demurrage/thirty.full") #[] #[]] v fun e' w' => e' = .returned (.tuple #[.agg #[.int .i64 p, .int .i64 q], .int .i64 0]) ∧ Below v.heap.size v w')) (hm : m2 ≠ 2) :
    Calls Tryd.prog 14 #[.int .i64 a, .int .i64 b, .int .i64 b] w fun e' w' => e' = .returned (.tuple #[.agg #[.int .i64 p, .int .i64 q], .int .i64 0]) ∧ Below w.heap.size w w' := by
  have H := (Held.start w).add (f := lensF) hL
  have hmf : ∀ (fn : Fn) (first cap : Array Value) (w : World), (Instr.makeFunc fn first cap).run Tryd.prog w = .ok (.func fn first cap) w := fun _ _ _ _ => rfl
  clear hL
  have t1 : (m2 == 2) = false := beq_eq_false_iff_ne.2 hm
  clear hm
  go_enter Tryd.func14, Tryd.ntmps14
  go_wp2_with fail
  replace H := (H.pair (w.heap.size) (.int .i64 0) (.int .i64 0) 26 rfl)
  (with_reducible refine (BC.out _ (H.lens (List.Mem.tail _ (List.Mem.tail _ (List.Mem.tail _ (List.Mem.tail _ (List.Mem.head _))))))).mono ?_)
  rintro e w1 ⟨rfl, hb⟩
  replace H := H.below hb
  clear hb
  go_wp2_with fail
  replace H := ((H.quad (w1.heap.size) (.int .i64 m1) (.int .i64 d1) (.bool l1) (.int .i64 y1) 66 rfl).quad (w1.heap.size + 1) (.int .i64 m2) (.int .i64 d2) (.bool l2) (.int .i64 y2) 66 (by simp))
  (with_reducible refine (PC.out _).mono ?_)
  rintro e w2 ⟨rfl, hb⟩
  replace H := H.below hb
  clear hb
  have cz0 := H.cell (w.heap.size) 0 (.int .i64 0) (List.Mem.tail _ (List.Mem.tail _ (List.Mem.tail _ (List.Mem.tail _ (List.Mem.tail _ (List.Mem.tail _ (List.Mem.tail _ (List.Mem.tail _ (List.Mem.tail _ (List.Mem.tail _ (List.Mem.tail _ (List.Mem.tail _ (List.Mem.tail _ (List.Mem.tail _ (List.Mem.tail _ (List.Mem.tail _ (List.Mem.head _)))))))))))))))))
  have cz1 := H.cell (w.heap.size) 1 (.int .i64 0) (List.Mem.tail _ (List.Mem.tail _ (List.Mem.tail _ (List.Mem.tail _ (List.Mem.tail _ (List.Mem.tail _ (List.Mem.tail _ (List.Mem.tail _ (List.Mem.tail _ (List.Mem.tail _ (List.Mem.tail _ (List.Mem.tail _ (List.Mem.tail _ (List.Mem.tail _ (List.Mem.tail _ (List.Mem.tail _ (List.Mem.tail _ (List.Mem.head _))))))))))))))))))
  have lz := H.lt (w.heap.size) 0 (.int .i64 0) (List.Mem.tail _ (List.Mem.tail _ (List.Mem.tail _ (List.Mem.tail _ (List.Mem.tail _ (List.Mem.tail _ (List.Mem.tail _ (List.Mem.tail _ (List.Mem.tail _ (List.Mem.tail _ (List.Mem.tail _ (List.Mem.tail _ (List.Mem.tail _ (List.Mem.tail _ (List.Mem.tail _ (List.Mem.tail _ (List.Mem.head _)))))))))))))))))
  have fz0 := H.frozen (w.heap.size) 0 (List.Mem.tail _ (List.Mem.tail _ (List.Mem.tail _ (List.Mem.tail _ (List.Mem.tail _ (List.Mem.tail _ (List.Mem.tail _ (List.Mem.tail _ (List.Mem.tail _ (List.Mem.tail _ (List.Mem.tail _ (List.Mem.tail _ (List.Mem.tail _ (List.Mem.tail _ (List.Mem.tail _ (List.Mem.tail _ (List.Mem.tail _ (List.Mem.tail _ (List.Mem.head _)))))))))))))))))))
  have fz1 := H.frozen (w.heap.size) 1 (List.Mem.tail _ (List.Mem.tail _ (List.Mem.tail _ (List.Mem.tail _ (List.Mem.tail _ (List.Mem.tail _ (List.Mem.tail _ (List.Mem.tail _ (List.Mem.tail _ (List.Mem.tail _ (List.Mem.tail _ (List.Mem.tail _ (List.Mem.tail _ (List.Mem.tail _ (List.Mem.tail _ (List.Mem.tail _ (List.Mem.tail _ (List.Mem.tail _ (List.Mem.tail _ (List.Mem.head _))))))))))))))))))))
  go_wp2_with fail
  exact bodyPost_ret (v := .tuple #[.agg #[.int .i64 p, .int .i64 q], .int .i64 0]) (by simp [results, Tryd.results14, go_sem, cz0, cz1]) rfl ⟨rfl, (H.old.setCell (by simp <;> omega) _).setCell (by simp <;> omega) _⟩

set_option maxHeartbeats 1000000 in
set_option maxRecDepth 100000 in
theorem isda_full (a b y1 m1 d1 y2 m2 d2 k p q : Int) (l1 l2 : Bool) (w : World) (hL : Lens w) (BC : Hid (∀ v, Lens v → Calls Tryd.prog 26 #[.int .i64 a, .int .i64 b] v fun e' w' => e' = .returned (.tuple #[.agg #[.int .i64 m1, .int .i64 d1, .bool l1, .int .i64 y1], .agg #[.int .i64 m2, .int .i64 d2, .bool l2, .int .i64 y2], .int .i64 0]) ∧ Below v.heap.size v w')) (PC : Hid (∀ v, Calls Tryd.prog 31 #[.agg #[.int .i64 m1, .int .i64 d1, .bool l1, .int .i64 y1], .agg #[.int .i64 m2, .int .i64 d2, .bool l2, .int .i64 y2], .func (.methodOf 66 "demurrage/thirty.full") #[] #[], .func (.methodOf 66 "demurrage/thirty.full") #[] #[]] v fun e' w' => e' = .returned (.tuple #[.agg #[.int .i64 p, .int .i64 q], .int .i64 0]) ∧ Below v.heap.size v w')) (hk : b ≠ k) :
    Calls Tryd.prog 14 #[.int .i64 a, .int .i64 b, .int .i64 k] w fun e' w' => e' = .returned (.tuple #[.agg #[.int .i64 p, .int .i64 q], .int .i64 0]) ∧ Below w.heap.size w w' := by
  have H := (Held.start w).add (f := lensF) hL
  have hmf : ∀ (fn : Fn) (first cap : Array Value) (w : World), (Instr.makeFunc fn first cap).run Tryd.prog w = .ok (.func fn first cap) w := fun _ _ _ _ => rfl
  clear hL
  have t2 : (b == k) = false := beq_eq_false_iff_ne.2 hk
  clear hk
  go_enter Tryd.func14, Tryd.ntmps14
  go_wp2_with fail
  replace H := (H.pair (w.heap.size) (.int .i64 0) (.int .i64 0) 26 rfl)
  (with_reducible refine (BC.out _ (H.lens (List.Mem.tail _ (List.Mem.tail _ (List.Mem.tail _ (List.Mem.tail _ (List.Mem.head _))))))).mono ?_)
  rintro e w1 ⟨rfl, hb⟩
  replace H := H.below hb
  clear hb
  go_wp2_with fail
  replace H := ((H.quad (w1.heap.size) (.int .i64 m1) (.int .i64 d1) (.bool l1) (.int .i64 y1) 66 rfl).quad (w1.heap.size + 1) (.int .i64 m2) (.int .i64 d2) (.bool l2) (.int .i64 y2) 66 (by simp))
  (with_reducible refine (PC.out _).mono ?_)
  rintro e w2 ⟨rfl, hb⟩
  replace H := H.below hb
  clear hb
  have cz0 := H.cell (w.heap.size) 0 (.int .i64 0) (List.Mem.tail _ (List.Mem.tail _ (List.Mem.tail _ (List.Mem.tail _ (List.Mem.tail _ (List.Mem.tail _ (List.Mem.tail _ (List.Mem.tail _ (List.Mem.tail _ (List.Mem.tail _ (List.Mem.tail _ (List.Mem.tail _ (List.Mem.tail _ (List.Mem.tail _ (List.Mem.tail _ (List.Mem.tail _ (List.Mem.head _)))))))))))))))))
  have cz1 := H.cell (w.heap.size) 1 (.int .i64 0) (List.Mem.tail _ (List.Mem.tail _ (List.Mem.tail _ (List.Mem.tail _ (List.Mem.tail _ (List.Mem.tail _ (List.Mem.tail _ (List.Mem.tail _ (List.Mem.tail _ (List.Mem.tail _ (List.Mem.tail _ (List.Mem.tail _ (List.Mem.tail _ (List.Mem.tail _ (List.Mem.tail _ (List.Mem.tail _ (List.Mem.tail _ (List.Mem.head _))))))))))))))))))
  have lz := H.lt (w.heap.size) 0 (.int .i64 0) (List.Mem.tail _ (List.Mem.tail _ (List.Mem.tail _ (List.Mem.tail _ (List.Mem.tail _ (List.Mem.tail _ (List.Mem.tail _ (List.Mem.tail _ (List.Mem.tail _ (List.Mem.tail _ (List.Mem.tail _ (List.Mem.tail _ (List.Mem.tail _ (List.Mem.tail _ (List.Mem.tail _ (List.Mem.tail _ (List.Mem.head _)))))))))))))))))
  have fz0 := H.frozen (w.heap.size) 0 (List.Mem.tail _ (List.Mem.tail _ (List.Mem.tail _ (List.Mem.tail _ (List.Mem.tail _ (List.Mem.tail _ (List.Mem.tail _ (List.Mem.tail _ (List.Mem.tail _ (List.Mem.tail _ (List.Mem.tail _ (List.Mem.tail _ (List.Mem.tail _ (List.Mem.tail _ (List.Mem.tail _ (List.Mem.tail _ (List.Mem.tail _ (List.Mem.tail _ (List.Mem.head _)))))))))))))))))))
  have fz1 := H.frozen (w.heap.size) 1 (List.Mem.tail _ (List.Mem.tail _ (List.Mem.tail _ (List.Mem.tail _ (List.Mem.tail _ (List.Mem.tail _ (List.Mem.tail _ (List.Mem.tail _ (List.Mem.tail _ (List.Mem.tail _ (List.Mem.tail _ (List.Mem.tail _ (List.Mem.tail _ (List.Mem.tail _ (List.Mem.tail _ (List.Mem.tail _ (List.Mem.tail _ (List.Mem.tail _ (List.Mem.tail _ (List.Mem.head _))))))))))))))))))))
  go_wp2_with fail
  exact bodyPost_ret (v := .tuple #[.agg #[.int .i64 p, .int .i64 q], .int .i64 0]) (by simp [results, Tryd.results14, go_sem, cz0, cz1]) rfl ⟨rfl, (H.old.setCell (by simp <;> omega) _).setCell (by simp <;> omega) _⟩
end Go.Proofs.YtkmjaoiehmddcaaDoor
