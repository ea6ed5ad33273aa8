/- Several texts in one: TeRefC. -/
import Derived.Test.YtpfgdfpaoldhcaaGreatDoorSoAP
set_option maxHeartbeats 8000000
set_option maxRecDepth 100000
set_option linter.unusedVariables false
set_option linter.unusedSimpArgs false
namespace Go.Proofs.YtpfgdfpaoldhcaaGreatDoor
open Go.RowKit
theorem zAf (n : Int) (b : Bool) (w : World) (h : decide (1 ≤ n ∧ n ≤ 3652059) = b) : Calls Tryz.prog 31 #[.int .i64 n] w fun e w' => e = .returned (.bool b) ∧ Below w.heap.size w w' := by
 subst h
 by_cases h1 : 1 ≤ n
 ·have h2 : decide (1 ≤ n ∧ n ≤ 3652059) = decide (n ≤ 3652059) := by simp [h1]
  rw [h2]
  go_enter Tryz.func31, Tryz.ntmps31
  go_wp2
  go_ret
  exact ⟨rfl, Below.refl _ _⟩
 ·have h2 : decide (1 ≤ n ∧ n ≤ 3652059) = false := by simp [h1]
  have h3 : decide (1 ≤ n) = false := by simp [h1]
  rw [h2]
  go_enter Tryz.func31, Tryz.ntmps31
  go_wp2
  go_ret
  exact ⟨rfl, Below.refl _ _⟩
theorem zD1 {w W : World} {fs gs : List Fact} {a : Nat} {p z : Value} {n : Int} {m : Nat} (H : Held w fs W) (hs : ∀ f ∈ gs, f ∈ fs) (hB : w.heap.size ≤ a) (hoff : ∀ f ∈ gs, f.off a) (c : W.cell? ⟨a, 0, none⟩ = some z) (h : BigN W p n m) (hne : ∀ g, p.ownBlock = some g → g ≠ a) :
  Held w (.cell a 0 p :: .num p n m :: gs) (W.setCell ⟨a, 0, none⟩ p) :=
 (((H.sub hs).set a 0 p hB hoff).add (f := .num p n m) (BigN.setCell h (fun e => hne _ e rfl) p)).add (f := .cell a 0 p) (World.cell?_setCell_same' _ _ _ (by rw [c]; rfl))
theorem zQa (mo ra ki co st en ms : Int) (bk lg eo : Bool) (ro : Int)  (e1 : decide (ki < 0) = true) (w : World) : Calls Tryz.prog 14 #[.agg #[.int .i64 mo, .int .i64 ra, .int .i64 ki, .int .i64 co, .int .i64 st, .int .i64 en, .int .i64 ms, .bool bk, .bool lg, .bool eo, .int .i64 ro]] w fun e w' => e = .returned (.int .i64 1) ∧ Below w.heap.size w w' := by
 have H := Held.start w
 go_enter Tryz.func14, Tryz.ntmps14
 repeat' (first | simp only [List.append_eq, List.cons_append, List.nil_append] | go_values | go_skip | go_guarded | go_step | go_upon)
 go_ret
 exact ⟨rfl, (H.alloc _).old⟩
theorem zQb (mo ra ki co st en ms : Int) (bk lg eo : Bool) (ro : Int) (e1 : decide (ki < 0) = false) (e2 : decide (ki > 2) = true) (w : World) : Calls Tryz.prog 14 #[.agg #[.int .i64 mo, .int .i64 ra, .int .i64 ki, .int .i64 co, .int .i64 st, .int .i64 en, .int .i64 ms, .bool bk, .bool lg, .bool eo, .int .i64 ro]] w fun e w' => e = .returned (.int .i64 1) ∧ Below w.heap.size w w' := by
 have H := Held.start w
 go_enter Tryz.func14, Tryz.ntmps14
 repeat' (first | simp only [List.append_eq, List.cons_append, List.nil_append] | go_values | go_skip | go_guarded | go_step | go_upon)
 go_ret
 exact ⟨rfl, (H.alloc _).old⟩
theorem zQ8 (mo ra ki co st en ms : Int) (bk lg eo : Bool) (ro : Int) (e1 : decide (ki < 0) = false) (e2 : decide (ki > 2) = false) (e3 : decide (co < 0) = true) (w : World) : Calls Tryz.prog 14 #[.agg #[.int .i64 mo, .int .i64 ra, .int .i64 ki, .int .i64 co, .int .i64 st, .int .i64 en, .int .i64 ms, .bool bk, .bool lg, .bool eo, .int .i64 ro]] w fun e w' => e = .returned (.int .i64 1) ∧ Below w.heap.size w w' := by
 have H := Held.start w
 go_enter Tryz.func14, Tryz.ntmps14
 repeat' (first | simp only [List.append_eq, List.cons_append, List.nil_append] | go_values | go_skip | go_guarded | go_step | go_upon)
 go_ret
 exact ⟨rfl, (H.alloc _).old⟩
theorem zQ9 (mo ra ki co st en ms : Int) (bk lg eo : Bool) (ro : Int) (e1 : decide (ki < 0) = false) (e2 : decide (ki > 2) = false) (e3 : decide (co < 0) = false) (e4 : decide (co > 6) = true) (w : World) : Calls Tryz.prog 14 #[.agg #[.int .i64 mo, .int .i64 ra, .int .i64 ki, .int .i64 co, .int .i64 st, .int .i64 en, .int .i64 ms, .bool bk, .bool lg, .bool eo, .int .i64 ro]] w fun e w' => e = .returned (.int .i64 1) ∧ Below w.heap.size w w' := by
 have H := Held.start w
 go_enter Tryz.func14, Tryz.ntmps14
 repeat' (first | simp only [List.append_eq, List.cons_append, List.nil_append] | go_values | go_skip | go_guarded | go_step | go_upon)
 go_ret
 exact ⟨rfl, (H.alloc _).old⟩
theorem zQe (mo ra ki co st en ms : Int) (bk lg eo : Bool) (ro : Int) (e1 : decide (ki < 0) = false) (e2 : decide (ki > 2) = false) (e3 : decide (co < 0) = false) (e4 : decide (co > 6) = false) (e5 : decide (ro < 0) = true) (w : World) : Calls Tryz.prog 14 #[.agg #[.int .i64 mo, .int .i64 ra, .int .i64 ki, .int .i64 co, .int .i64 st, .int .i64 en, .int .i64 ms, .bool bk, .bool lg, .bool eo, .int .i64 ro]] w fun e w' => e = .returned (.int .i64 1) ∧ Below w.heap.size w w' := by
 have H := Held.start w
 go_enter Tryz.func14, Tryz.ntmps14
 repeat' (first | simp only [List.append_eq, List.cons_append, List.nil_append] | go_values | go_skip | go_guarded | go_step | go_upon)
 go_ret
 exact ⟨rfl, (H.alloc _).old⟩
theorem zQf (mo ra ki co st en ms : Int) (bk lg eo : Bool) (ro : Int) (e1 : decide (ki < 0) = false) (e2 : decide (ki > 2) = false) (e3 : decide (co < 0) = false) (e4 : decide (co > 6) = false) (e5 : decide (ro < 0) = false) (e6 : decide (ro > 4) = true) (w : World) : Calls Tryz.prog 14 #[.agg #[.int .i64 mo, .int .i64 ra, .int .i64 ki, .int .i64 co, .int .i64 st, .int .i64 en, .int .i64 ms, .bool bk, .bool lg, .bool eo, .int .i64 ro]] w fun e w' => e = .returned (.int .i64 1) ∧ Below w.heap.size w w' := by
 have H := Held.start w
 go_enter Tryz.func14, Tryz.ntmps14
 repeat' (first | simp only [List.append_eq, List.cons_append, List.nil_append] | go_values | go_skip | go_guarded | go_step | go_upon)
 go_ret
 exact ⟨rfl, (H.alloc _).old⟩
theorem zH2 (mo ra ki co st en ms : Int) (bk lg eo : Bool) (ro : Int) (e1 : decide (ki < 0) = false) (e2 : decide (ki > 2) = false) (e3 : decide (co < 0) = false) (e4 : decide (co > 6) = false) (e5 : decide (ro < 0) = false) (e6 : decide (ro > 4) = false) (f : Int) (e7 : fr ms = f) (e8 : (f == 0) = true) (w : World) : Calls Tryz.prog 14 #[.agg #[.int .i64 mo, .int .i64 ra, .int .i64 ki, .int .i64 co, .int .i64 st, .int .i64 en, .int .i64 ms, .bool bk, .bool lg, .bool eo, .int .i64 ro]] w fun e w' => e = .returned (.int .i64 1) ∧ Below w.heap.size w w' := by
 have H := Held.start w
 go_enter Tryz.func14, Tryz.ntmps14
 repeat' (first | simp only [List.append_eq, List.cons_append, List.nil_append] | go_values | go_skip | go_guarded | go_step | go_upon)
 replace H := H.box_11 (w.heap.size) (.int .i64 mo) (.int .i64 ra) (.int .i64 ki) (.int .i64 co) (.int .i64 st) (.int .i64 en) (.int .i64 ms) (.bool bk) (.bool lg) (.bool eo) (.int .i64 ro) 23 rfl
 (with_reducible refine (zC1 ms f _ e7).mono ?_)
 rintro e w1 ⟨rfl, hb⟩
 replace H := H.below hb
 clear hb
 repeat' (first | simp only [List.append_eq, List.cons_append, List.nil_append] | go_values | go_skip | go_guarded | go_step | go_upon)
 go_ret
 exact ⟨rfl, H.old⟩
theorem zK5 (mo ra ki co st en ms : Int) (bk lg eo : Bool) (ro : Int) (e1 : decide (ki < 0) = false) (e2 : decide (ki > 2) = false) (e3 : decide (co < 0) = false) (e4 : decide (co > 6) = false) (e5 : decide (ro < 0) = false) (e6 : decide (ro > 4) = false) (f : Int) (e7 : fr ms = f) (e8 : (f == 0) = false) (e9 : decide (1 ≤ st ∧ st ≤ 3652059) = false) (q : Bool) (e10 : decide (1 ≤ en ∧ en ≤ 3652059) = q) (w : World) : Calls Tryz.prog 14 #[.agg #[.int .i64 mo, .int .i64 ra, .int .i64 ki, .int .i64 co, .int .i64 st, .int .i64 en, .int .i64 ms, .bool bk, .bool lg, .bool eo, .int .i64 ro]] w fun e w' => e = .returned (.int .i64 3) ∧ Below w.heap.size w w' := by
 have H := Held.start w
 go_enter Tryz.func14, Tryz.ntmps14
 repeat' (first | simp only [List.append_eq, List.cons_append, List.nil_append] | go_values | go_skip | go_guarded | go_step | go_upon)
 replace H := H.box_11 (w.heap.size) (.int .i64 mo) (.int .i64 ra) (.int .i64 ki) (.int .i64 co) (.int .i64 st) (.int .i64 en) (.int .i64 ms) (.bool bk) (.bool lg) (.bool eo) (.int .i64 ro) 23 rfl
 (with_reducible refine (zC1 ms f _ e7).mono ?_)
 rintro e w1 ⟨rfl, hb⟩
 replace H := H.below hb
 clear hb
 obtain ⟨ct0, ct1, ct2, ct3, ct4, ct5, ct6, ct7, ct8, ct9, ct10⟩ := H.cells11 (w.heap.size)
 have lt := zA0 ct0
 repeat' (first | simp only [List.append_eq, List.cons_append, List.nil_append] | go_values | go_skip | go_guarded | go_step | go_upon)
 clear ct0 ct1 ct2 ct3 ct4 ct5 ct6 ct7 ct8 ct9 ct10 lt
 (with_reducible refine (zAf st _ _ e9).mono ?_)
 rintro e w2 ⟨rfl, hb⟩
 replace H := H.below hb
 clear hb
 obtain ⟨ct0, ct1, ct2, ct3, ct4, ct5, ct6, ct7, ct8, ct9, ct10⟩ := H.cells11 (w.heap.size)
 have lt := zA0 ct0
 repeat' (first | simp only [List.append_eq, List.cons_append, List.nil_append] | go_values | go_skip | go_guarded | go_step | go_upon)
 clear ct0 ct1 ct2 ct3 ct4 ct5 ct6 ct7 ct8 ct9 ct10 lt
 (with_reducible refine (zAf en _ _ e10).mono ?_)
 rintro e w3 ⟨rfl, hb⟩
 replace H := H.below hb
 clear hb
 obtain ⟨ct0, ct1, ct2, ct3, ct4, ct5, ct6, ct7, ct8, ct9, ct10⟩ := H.cells11 (w.heap.size)
 have lt := zA0 ct0
 repeat' (first | simp only [List.append_eq, List.cons_append, List.nil_append] | go_values | go_skip | go_guarded | go_step | go_upon)
 clear ct0 ct1 ct2 ct3 ct4 ct5 ct6 ct7 ct8 ct9 ct10 lt
 go_ret
 exact ⟨rfl, H.old⟩
theorem zK6 (mo ra ki co st en ms : Int) (bk lg eo : Bool) (ro : Int) (e1 : decide (ki < 0) = false) (e2 : decide (ki > 2) = false) (e3 : decide (co < 0) = false) (e4 : decide (co > 6) = false) (e5 : decide (ro < 0) = false) (e6 : decide (ro > 4) = false) (f : Int) (e7 : fr ms = f) (e8 : (f == 0) = false) (e9 : decide (1 ≤ st ∧ st ≤ 3652059) = true) (e10 : decide (1 ≤ en ∧ en ≤ 3652059) = false) (w : World) : Calls Tryz.prog 14 #[.agg #[.int .i64 mo, .int .i64 ra, .int .i64 ki, .int .i64 co, .int .i64 st, .int .i64 en, .int .i64 ms, .bool bk, .bool lg, .bool eo, .int .i64 ro]] w fun e w' => e = .returned (.int .i64 3) ∧ Below w.heap.size w w' := by
 have H := Held.start w
 go_enter Tryz.func14, Tryz.ntmps14
 repeat' (first | simp only [List.append_eq, List.cons_append, List.nil_append] | go_values | go_skip | go_guarded | go_step | go_upon)
 replace H := H.box_11 (w.heap.size) (.int .i64 mo) (.int .i64 ra) (.int .i64 ki) (.int .i64 co) (.int .i64 st) (.int .i64 en) (.int .i64 ms) (.bool bk) (.bool lg) (.bool eo) (.int .i64 ro) 23 rfl
 (with_reducible refine (zC1 ms f _ e7).mono ?_)
 rintro e w1 ⟨rfl, hb⟩
 replace H := H.below hb
 clear hb
 obtain ⟨ct0, ct1, ct2, ct3, ct4, ct5, ct6, ct7, ct8, ct9, ct10⟩ := H.cells11 (w.heap.size)
 have lt := zA0 ct0
 repeat' (first | simp only [List.append_eq, List.cons_append, List.nil_append] | go_values | go_skip | go_guarded | go_step | go_upon)
 clear ct0 ct1 ct2 ct3 ct4 ct5 ct6 ct7 ct8 ct9 ct10 lt
 (with_reducible refine (zAf st _ _ e9).mono ?_)
 rintro e w2 ⟨rfl, hb⟩
 replace H := H.below hb
 clear hb
 obtain ⟨ct0, ct1, ct2, ct3, ct4, ct5, ct6, ct7, ct8, ct9, ct10⟩ := H.cells11 (w.heap.size)
 have lt := zA0 ct0
 repeat' (first | simp only [List.append_eq, List.cons_append, List.nil_append] | go_values | go_skip | go_guarded | go_step | go_upon)
 clear ct0 ct1 ct2 ct3 ct4 ct5 ct6 ct7 ct8 ct9 ct10 lt
 (with_reducible refine (zAf en _ _ e10).mono ?_)
 rintro e w3 ⟨rfl, hb⟩
 replace H := H.below hb
 clear hb
 obtain ⟨ct0, ct1, ct2, ct3, ct4, ct5, ct6, ct7, ct8, ct9, ct10⟩ := H.cells11 (w.heap.size)
 have lt := zA0 ct0
 repeat' (first | simp only [List.append_eq, List.cons_append, List.nil_append] | go_values | go_skip | go_guarded | go_step | go_upon)
 clear ct0 ct1 ct2 ct3 ct4 ct5 ct6 ct7 ct8 ct9 ct10 lt
 go_ret
 exact ⟨rfl, H.old⟩
theorem zH3 (mo ra ki co st en ms : Int) (bk lg eo : Bool) (ro : Int) (e1 : decide (ki < 0) = false) (e2 : decide (ki > 2) = false) (e3 : decide (co < 0) = false) (e4 : decide (co > 6) = false) (e5 : decide (ro < 0) = false) (e6 : decide (ro > 4) = false) (f : Int) (e7 : fr ms = f) (e8 : (f == 0) = false) (e9 : decide (1 ≤ st ∧ st ≤ 3652059) = true) (e10 : decide (1 ≤ en ∧ en ≤ 3652059) = true) (e11 : decide (st ≥ en) = true) (w : World) : Calls Tryz.prog 14 #[.agg #[.int .i64 mo, .int .i64 ra, .int .i64 ki, .int .i64 co, .int .i64 st, .int .i64 en, .int .i64 ms, .bool bk, .bool lg, .bool eo, .int .i64 ro]] w fun e w' => e = .returned (.int .i64 4) ∧ Below w.heap.size w w' := by
 have H := Held.start w
 go_enter Tryz.func14, Tryz.ntmps14
 repeat' (first | simp only [List.append_eq, List.cons_append, List.nil_append] | go_values | go_skip | go_guarded | go_step | go_upon)
 replace H := H.box_11 (w.heap.size) (.int .i64 mo) (.int .i64 ra) (.int .i64 ki) (.int .i64 co) (.int .i64 st) (.int .i64 en) (.int .i64 ms) (.bool bk) (.bool lg) (.bool eo) (.int .i64 ro) 23 rfl
 (with_reducible refine (zC1 ms f _ e7).mono ?_)
 rintro e w1 ⟨rfl, hb⟩
 replace H := H.below hb
 clear hb
 obtain ⟨ct0, ct1, ct2, ct3, ct4, ct5, ct6, ct7, ct8, ct9, ct10⟩ := H.cells11 (w.heap.size)
 have lt := zA0 ct0
 repeat' (first | simp only [List.append_eq, List.cons_append, List.nil_append] | go_values | go_skip | go_guarded | go_step | go_upon)
 clear ct0 ct1 ct2 ct3 ct4 ct5 ct6 ct7 ct8 ct9 ct10 lt
 (with_reducible refine (zAf st _ _ e9).mono ?_)
 rintro e w2 ⟨rfl, hb⟩
 replace H := H.below hb
 clear hb
 obtain ⟨ct0, ct1, ct2, ct3, ct4, ct5, ct6, ct7, ct8, ct9, ct10⟩ := H.cells11 (w.heap.size)
 have lt := zA0 ct0
 repeat' (first | simp only [List.append_eq, List.cons_append, List.nil_append] | go_values | go_skip | go_guarded | go_step | go_upon)
 clear ct0 ct1 ct2 ct3 ct4 ct5 ct6 ct7 ct8 ct9 ct10 lt
 (with_reducible refine (zAf en _ _ e10).mono ?_)
 rintro e w3 ⟨rfl, hb⟩
 replace H := H.below hb
 clear hb
 obtain ⟨ct0, ct1, ct2, ct3, ct4, ct5, ct6, ct7, ct8, ct9, ct10⟩ := H.cells11 (w.heap.size)
 have lt := zA0 ct0
 repeat' (first | simp only [List.append_eq, List.cons_append, List.nil_append] | go_values | go_skip | go_guarded | go_step | go_upon)
 clear ct0 ct1 ct2 ct3 ct4 ct5 ct6 ct7 ct8 ct9 ct10 lt
 go_ret
 exact ⟨rfl, H.old⟩
theorem zQc (mo ra ki co st en ms : Int) (bk lg eo : Bool) (ro : Int) (e1 : decide (ki < 0) = false) (e2 : decide (ki > 2) = false) (e3 : decide (co < 0) = false) (e4 : decide (co > 6) = false) (e5 : decide (ro < 0) = false) (e6 : decide (ro > 4) = false) (f : Int) (e7 : fr ms = f) (e8 : (f == 0) = false) (e9 : decide (1 ≤ st ∧ st ≤ 3652059) = true) (e10 : decide (1 ≤ en ∧ en ≤ 3652059) = true) (e11 : decide (st ≥ en) = false)  (e12 : decide (mo < 1) = true) (w : World) : Calls Tryz.prog 14 #[.agg #[.int .i64 mo, .int .i64 ra, .int .i64 ki, .int .i64 co, .int .i64 st, .int .i64 en, .int .i64 ms, .bool bk, .bool lg, .bool eo, .int .i64 ro]] w fun e w' => e = .returned (.int .i64 2) ∧ Below w.heap.size w w' := by
 have H := Held.start w
 go_enter Tryz.func14, Tryz.ntmps14
 repeat' (first | simp only [List.append_eq, List.cons_append, List.nil_append] | go_values | go_skip | go_guarded | go_step | go_upon)
 replace H := H.box_11 (w.heap.size) (.int .i64 mo) (.int .i64 ra) (.int .i64 ki) (.int .i64 co) (.int .i64 st) (.int .i64 en) (.int .i64 ms) (.bool bk) (.bool lg) (.bool eo) (.int .i64 ro) 23 rfl
 (with_reducible refine (zC1 ms f _ e7).mono ?_)
 rintro e w1 ⟨rfl, hb⟩
 replace H := H.below hb
 clear hb
 obtain ⟨ct0, ct1, ct2, ct3, ct4, ct5, ct6, ct7, ct8, ct9, ct10⟩ := H.cells11 (w.heap.size)
 have lt := zA0 ct0
 repeat' (first | simp only [List.append_eq, List.cons_append, List.nil_append] | go_values | go_skip | go_guarded | go_step | go_upon)
 clear ct0 ct1 ct2 ct3 ct4 ct5 ct6 ct7 ct8 ct9 ct10 lt
 (with_reducible refine (zAf st _ _ e9).mono ?_)
 rintro e w2 ⟨rfl, hb⟩
 replace H := H.below hb
 clear hb
 obtain ⟨ct0, ct1, ct2, ct3, ct4, ct5, ct6, ct7, ct8, ct9, ct10⟩ := H.cells11 (w.heap.size)
 have lt := zA0 ct0
 repeat' (first | simp only [List.append_eq, List.cons_append, List.nil_append] | go_values | go_skip | go_guarded | go_step | go_upon)
 clear ct0 ct1 ct2 ct3 ct4 ct5 ct6 ct7 ct8 ct9 ct10 lt
 (with_reducible refine (zAf en _ _ e10).mono ?_)
 rintro e w3 ⟨rfl, hb⟩
 replace H := H.below hb
 clear hb
 obtain ⟨ct0, ct1, ct2, ct3, ct4, ct5, ct6, ct7, ct8, ct9, ct10⟩ := H.cells11 (w.heap.size)
 have lt := zA0 ct0
 repeat' (first | simp only [List.append_eq, List.cons_append, List.nil_append] | go_values | go_skip | go_guarded | go_step | go_upon)
 clear ct0 ct1 ct2 ct3 ct4 ct5 ct6 ct7 ct8 ct9 ct10 lt
 go_ret
 exact ⟨rfl, H.old⟩
theorem zQd (mo ra ki co st en ms : Int) (bk lg eo : Bool) (ro : Int) (e1 : decide (ki < 0) = false) (e2 : decide (ki > 2) = false) (e3 : decide (co < 0) = false) (e4 : decide (co > 6) = false) (e5 : decide (ro < 0) = false) (e6 : decide (ro > 4) = false) (f : Int) (e7 : fr ms = f) (e8 : (f == 0) = false) (e9 : decide (1 ≤ st ∧ st ≤ 3652059) = true) (e10 : decide (1 ≤ en ∧ en ≤ 3652059) = true) (e11 : decide (st ≥ en) = false) (e12 : decide (mo < 1) = false) (e13 : decide (mo > 1000000000000000) = true) (w : World) : Calls Tryz.prog 14 #[.agg #[.int .i64 mo, .int .i64 ra, .int .i64 ki, .int .i64 co, .int .i64 st, .int .i64 en, .int .i64 ms, .bool bk, .bool lg, .bool eo, .int .i64 ro]] w fun e w' => e = .returned (.int .i64 2) ∧ Below w.heap.size w w' := by
 have H := Held.start w
 go_enter Tryz.func14, Tryz.ntmps14
 repeat' (first | simp only [List.append_eq, List.cons_append, List.nil_append] | go_values | go_skip | go_guarded | go_step | go_upon)
 replace H := H.box_11 (w.heap.size) (.int .i64 mo) (.int .i64 ra) (.int .i64 ki) (.int .i64 co) (.int .i64 st) (.int .i64 en) (.int .i64 ms) (.bool bk) (.bool lg) (.bool eo) (.int .i64 ro) 23 rfl
 (with_reducible refine (zC1 ms f _ e7).mono ?_)
 rintro e w1 ⟨rfl, hb⟩
 replace H := H.below hb
 clear hb
 obtain ⟨ct0, ct1, ct2, ct3, ct4, ct5, ct6, ct7, ct8, ct9, ct10⟩ := H.cells11 (w.heap.size)
 have lt := zA0 ct0
 repeat' (first | simp only [List.append_eq, List.cons_append, List.nil_append] | go_values | go_skip | go_guarded | go_step | go_upon)
 clear ct0 ct1 ct2 ct3 ct4 ct5 ct6 ct7 ct8 ct9 ct10 lt
 (with_reducible refine (zAf st _ _ e9).mono ?_)
 rintro e w2 ⟨rfl, hb⟩
 replace H := H.below hb
 clear hb
 obtain ⟨ct0, ct1, ct2, ct3, ct4, ct5, ct6, ct7, ct8, ct9, ct10⟩ := H.cells11 (w.heap.size)
 have lt := zA0 ct0
 repeat' (first | simp only [List.append_eq, List.cons_append, List.nil_append] | go_values | go_skip | go_guarded | go_step | go_upon)
 clear ct0 ct1 ct2 ct3 ct4 ct5 ct6 ct7 ct8 ct9 ct10 lt
 (with_reducible refine (zAf en _ _ e10).mono ?_)
 rintro e w3 ⟨rfl, hb⟩
 replace H := H.below hb
 clear hb
 obtain ⟨ct0, ct1, ct2, ct3, ct4, ct5, ct6, ct7, ct8, ct9, ct10⟩ := H.cells11 (w.heap.size)
 have lt := zA0 ct0
 repeat' (first | simp only [List.append_eq, List.cons_append, List.nil_append] | go_values | go_skip | go_guarded | go_step | go_upon)
 clear ct0 ct1 ct2 ct3 ct4 ct5 ct6 ct7 ct8 ct9 ct10 lt
 go_ret
 exact ⟨rfl, H.old⟩
theorem zQ6 (mo ra ki co st en ms : Int) (bk lg eo : Bool) (ro : Int) (e1 : decide (ki < 0) = false) (e2 : decide (ki > 2) = false) (e3 : decide (co < 0) = false) (e4 : decide (co > 6) = false) (e5 : decide (ro < 0) = false) (e6 : decide (ro > 4) = false) (f : Int) (e7 : fr ms = f) (e8 : (f == 0) = false) (e9 : decide (1 ≤ st ∧ st ≤ 3652059) = true) (e10 : decide (1 ≤ en ∧ en ≤ 3652059) = true) (e11 : decide (st ≥ en) = false) (e12 : decide (mo < 1) = false) (e13 : decide (mo > 1000000000000000) = false) (e14 : decide (ra < 0) = true) (w : World) : Calls Tryz.prog 14 #[.agg #[.int .i64 mo, .int .i64 ra, .int .i64 ki, .int .i64 co, .int .i64 st, .int .i64 en, .int .i64 ms, .bool bk, .bool lg, .bool eo, .int .i64 ro]] w fun e w' => e = .returned (.int .i64 2) ∧ Below w.heap.size w w' := by
 have H := Held.start w
 go_enter Tryz.func14, Tryz.ntmps14
 repeat' (first | simp only [List.append_eq, List.cons_append, List.nil_append] | go_values | go_skip | go_guarded | go_step | go_upon)
 replace H := H.box_11 (w.heap.size) (.int .i64 mo) (.int .i64 ra) (.int .i64 ki) (.int .i64 co) (.int .i64 st) (.int .i64 en) (.int .i64 ms) (.bool bk) (.bool lg) (.bool eo) (.int .i64 ro) 23 rfl
 (with_reducible refine (zC1 ms f _ e7).mono ?_)
 rintro e w1 ⟨rfl, hb⟩
 replace H := H.below hb
 clear hb
 obtain ⟨ct0, ct1, ct2, ct3, ct4, ct5, ct6, ct7, ct8, ct9, ct10⟩ := H.cells11 (w.heap.size)
 have lt := zA0 ct0
 repeat' (first | simp only [List.append_eq, List.cons_append, List.nil_append] | go_values | go_skip | go_guarded | go_step | go_upon)
 clear ct0 ct1 ct2 ct3 ct4 ct5 ct6 ct7 ct8 ct9 ct10 lt
 (with_reducible refine (zAf st _ _ e9).mono ?_)
 rintro e w2 ⟨rfl, hb⟩
 replace H := H.below hb
 clear hb
 obtain ⟨ct0, ct1, ct2, ct3, ct4, ct5, ct6, ct7, ct8, ct9, ct10⟩ := H.cells11 (w.heap.size)
 have lt := zA0 ct0
 repeat' (first | simp only [List.append_eq, List.cons_append, List.nil_append] | go_values | go_skip | go_guarded | go_step | go_upon)
 clear ct0 ct1 ct2 ct3 ct4 ct5 ct6 ct7 ct8 ct9 ct10 lt
 (with_reducible refine (zAf en _ _ e10).mono ?_)
 rintro e w3 ⟨rfl, hb⟩
 replace H := H.below hb
 clear hb
 obtain ⟨ct0, ct1, ct2, ct3, ct4, ct5, ct6, ct7, ct8, ct9, ct10⟩ := H.cells11 (w.heap.size)
 have lt := zA0 ct0
 repeat' (first | simp only [List.append_eq, List.cons_append, List.nil_append] | go_values | go_skip | go_guarded | go_step | go_upon)
 clear ct0 ct1 ct2 ct3 ct4 ct5 ct6 ct7 ct8 ct9 ct10 lt
 go_ret
 exact ⟨rfl, H.old⟩
theorem zQ7 (mo ra ki co st en ms : Int) (bk lg eo : Bool) (ro : Int) (e1 : decide (ki < 0) = false) (e2 : decide (ki > 2) = false) (e3 : decide (co < 0) = false) (e4 : decide (co > 6) = false) (e5 : decide (ro < 0) = false) (e6 : decide (ro > 4) = false) (f : Int) (e7 : fr ms = f) (e8 : (f == 0) = false) (e9 : decide (1 ≤ st ∧ st ≤ 3652059) = true) (e10 : decide (1 ≤ en ∧ en ≤ 3652059) = true) (e11 : decide (st ≥ en) = false) (e12 : decide (mo < 1) = false) (e13 : decide (mo > 1000000000000000) = false) (e14 : decide (ra < 0) = false) (e15 : decide (ra > 1000000) = true) (w : World) : Calls Tryz.prog 14 #[.agg #[.int .i64 mo, .int .i64 ra, .int .i64 ki, .int .i64 co, .int .i64 st, .int .i64 en, .int .i64 ms, .bool bk, .bool lg, .bool eo, .int .i64 ro]] w fun e w' => e = .returned (.int .i64 2) ∧ Below w.heap.size w w' := by
 have H := Held.start w
 go_enter Tryz.func14, Tryz.ntmps14
 repeat' (first | simp only [List.append_eq, List.cons_append, List.nil_append] | go_values | go_skip | go_guarded | go_step | go_upon)
 replace H := H.box_11 (w.heap.size) (.int .i64 mo) (.int .i64 ra) (.int .i64 ki) (.int .i64 co) (.int .i64 st) (.int .i64 en) (.int .i64 ms) (.bool bk) (.bool lg) (.bool eo) (.int .i64 ro) 23 rfl
 (with_reducible refine (zC1 ms f _ e7).mono ?_)
 rintro e w1 ⟨rfl, hb⟩
 replace H := H.below hb
 clear hb
 obtain ⟨ct0, ct1, ct2, ct3, ct4, ct5, ct6, ct7, ct8, ct9, ct10⟩ := H.cells11 (w.heap.size)
 have lt := zA0 ct0
 repeat' (first | simp only [List.append_eq, List.cons_append, List.nil_append] | go_values | go_skip | go_guarded | go_step | go_upon)
 clear ct0 ct1 ct2 ct3 ct4 ct5 ct6 ct7 ct8 ct9 ct10 lt
 (with_reducible refine (zAf st _ _ e9).mono ?_)
 rintro e w2 ⟨rfl, hb⟩
 replace H := H.below hb
 clear hb
 obtain ⟨ct0, ct1, ct2, ct3, ct4, ct5, ct6, ct7, ct8, ct9, ct10⟩ := H.cells11 (w.heap.size)
 have lt := zA0 ct0
 repeat' (first | simp only [List.append_eq, List.cons_append, List.nil_append] | go_values | go_skip | go_guarded | go_step | go_upon)
 clear ct0 ct1 ct2 ct3 ct4 ct5 ct6 ct7 ct8 ct9 ct10 lt
 (with_reducible refine (zAf en _ _ e10).mono ?_)
 rintro e w3 ⟨rfl, hb⟩
 replace H := H.below hb
 clear hb
 obtain ⟨ct0, ct1, ct2, ct3, ct4, ct5, ct6, ct7, ct8, ct9, ct10⟩ := H.cells11 (w.heap.size)
 have lt := zA0 ct0
 repeat' (first | simp only [List.append_eq, List.cons_append, List.nil_append] | go_values | go_skip | go_guarded | go_step | go_upon)
 clear ct0 ct1 ct2 ct3 ct4 ct5 ct6 ct7 ct8 ct9 ct10 lt
 go_ret
 exact ⟨rfl, H.old⟩
theorem zK4 (mo ra ki co st en ms : Int) (bk lg eo : Bool) (ro : Int) (e1 : decide (ki < 0) = false) (e2 : decide (ki > 2) = false) (e3 : decide (co < 0) = false) (e4 : decide (co > 6) = false) (e5 : decide (ro < 0) = false) (e6 : decide (ro > 4) = false) (f : Int) (e7 : fr ms = f) (e8 : (f == 0) = false) (e9 : decide (1 ≤ st ∧ st ≤ 3652059) = true) (e10 : decide (1 ≤ en ∧ en ≤ 3652059) = true) (e11 : decide (st ≥ en) = false) (e12 : decide (mo < 1) = false) (e13 : decide (mo > 1000000000000000) = false) (e14 : decide (ra < 0) = false) (e15 : decide (ra > 1000000) = false) (hm : 1 ≤ mo ∧ mo ≤ 1000000000000000) (hr : 0 ≤ ra ∧ ra ≤ 1000000) (r : Int) (hR : cmpI (mo * ra) 9000000000000000000 = r) (e16 : decide (r > 0) = true) (w : World) : Calls Tryz.prog 14 #[.agg #[.int .i64 mo, .int .i64 ra, .int .i64 ki, .int .i64 co, .int .i64 st, .int .i64 en, .int .i64 ms, .bool bk, .bool lg, .bool eo, .int .i64 ro]] w fun e w' => e = .returned (.int .i64 2) ∧ Below w.heap.size w w' := by
 have H := Held.start w
 have HR := Lib.hid hR
 clear hR
 go_enter Tryz.func14, Tryz.ntmps14
 repeat' (first | simp only [List.append_eq, List.cons_append, List.nil_append] | go_values | go_skip | go_guarded | go_step | go_upon)
 replace H := H.box_11 (w.heap.size) (.int .i64 mo) (.int .i64 ra) (.int .i64 ki) (.int .i64 co) (.int .i64 st) (.int .i64 en) (.int .i64 ms) (.bool bk) (.bool lg) (.bool eo) (.int .i64 ro) 23 rfl
 (with_reducible refine (zC1 ms f _ e7).mono ?_)
 rintro e w1 ⟨rfl, hb⟩
 replace H := H.below hb
 clear hb
 obtain ⟨ct0, ct1, ct2, ct3, ct4, ct5, ct6, ct7, ct8, ct9, ct10⟩ := H.cells11 (w.heap.size)
 have lt := zA0 ct0
 repeat' (first | simp only [List.append_eq, List.cons_append, List.nil_append] | go_values | go_skip | go_guarded | go_step | go_upon)
 clear ct0 ct1 ct2 ct3 ct4 ct5 ct6 ct7 ct8 ct9 ct10 lt
 (with_reducible refine (zAf st _ _ e9).mono ?_)
 rintro e w2 ⟨rfl, hb⟩
 replace H := H.below hb
 clear hb
 obtain ⟨ct0, ct1, ct2, ct3, ct4, ct5, ct6, ct7, ct8, ct9, ct10⟩ := H.cells11 (w.heap.size)
 have lt := zA0 ct0
 repeat' (first | simp only [List.append_eq, List.cons_append, List.nil_append] | go_values | go_skip | go_guarded | go_step | go_upon)
 clear ct0 ct1 ct2 ct3 ct4 ct5 ct6 ct7 ct8 ct9 ct10 lt
 (with_reducible refine (zAf en _ _ e10).mono ?_)
 rintro e w3 ⟨rfl, hb⟩
 replace H := H.below hb
 clear hb
 obtain ⟨ct0, ct1, ct2, ct3, ct4, ct5, ct6, ct7, ct8, ct9, ct10⟩ := H.cells11 (w.heap.size)
 have lt := zA0 ct0
 repeat' (first | simp only [List.append_eq, List.cons_append, List.nil_append] | go_values | go_skip | go_guarded | go_step | go_upon)
 clear ct0 ct1 ct2 ct3 ct4 ct5 ct6 ct7 ct8 ct9 ct10 lt
 replace H := H.drew
 refine wp_region_held_drew (S := fun w' => w'.cell? ⟨w.heap.size, 0, none⟩ = some (.int .i64 mo) ∧ w'.cell? ⟨w.heap.size, 1, none⟩ = some (.int .i64 ra)) (by kernel_rfl) (⟨H.cell (w.heap.size) 0 (.int .i64 mo), H.cell (w.heap.size) 1 (.int .i64 ra)⟩) (fun hHeld => ?_)
 obtain ⟨WD, hWD⟩ : ∃ WD, World.drew w3 = WD := ⟨_, rfl⟩
 rw [hWD] at H hHeld ⊢
 clear hWD
 refine wpAnyH_take (i := 0) (oi := ⟨some 75, _, _, _, _, _⟩) (v := ?_) rfl (by kernel_rfl) (by kernel_rfl) (by kernel_rfl) (fun _ _ _ h => h) (Or.inl ⟨by rfl, ?_⟩) (by assumption) ?_
 rotate_left
 ·intro w hSw; (try dsimp only at hSw); go_simp; try with_reducible rfl
 simp only [Act.put, List.setIfInBounds_toArray, List.set_cons_zero, List.set_cons_succ]
 refine wpAnyH_take (i := 1) (oi := ⟨some 76, _, _, _, _, _⟩) (v := ?_) rfl (by kernel_rfl) (by kernel_rfl) (by kernel_rfl) (fun _ _ _ h => h) (Or.inl ⟨by rfl, ?_⟩) (by assumption) ?_
 rotate_left
 ·intro w hSw; (try dsimp only at hSw); go_simp; try with_reducible rfl
 simp only [Act.put, List.setIfInBounds_toArray, List.set_cons_zero, List.set_cons_succ]
 refine wpAnyH_take (i := 3) (oi := ⟨some 78, _, _, _, _, _⟩) (v := ?_) rfl (by kernel_rfl) (by kernel_rfl) (by kernel_rfl) (fun _ _ _ h => h) (Or.inl ⟨by rfl, ?_⟩) (by assumption) ?_
 rotate_left
 ·intro w hSw; (try dsimp only at hSw); go_simp; try with_reducible rfl
 simp only [Act.put, List.setIfInBounds_toArray, List.set_cons_zero, List.set_cons_succ]
 refine wpAnyH_take (i := 4) (oi := ⟨some 79, _, _, _, _, _⟩) (v := ?_) rfl (by kernel_rfl) (by kernel_rfl) (by kernel_rfl) (fun _ _ _ h => h) (Or.inl ⟨by rfl, ?_⟩) (by assumption) ?_
 rotate_left
 ·intro w hSw; (try dsimp only at hSw); go_simp; try with_reducible rfl
 simp only [Act.put, List.setIfInBounds_toArray, List.set_cons_zero, List.set_cons_succ]
 refine wpAnyH_ready (rs := [2, 7]) (by kernel_rfl) (by simp) ?_
 refine AllReadyH.cons (o := ⟨some 77, _, _, _, _, _⟩) rfl (fun K hK => ?_) (AllReadyH.cons (o := ⟨some 5, _, _, _, _, _⟩) rfl (fun K hK => ?_) AllReadyH.nil)
 ·
  go_simp
  (with_reducible refine (zB8 mo _ (by omega) (by omega)).mono ?_)
  rintro e v1 ⟨pa, pk, pc, rfl, NN, FN, hb⟩
  replace H := (H.below hb).num NN
  clear NN FN hb
  go_wp2_with fail
  refine hK.out _ _ ?_ (fun hNew => ?_)
  ·exact ⟨H.cell (w.heap.size) 0 (.int .i64 mo), H.cell (w.heap.size) 1 (.int .i64 ra)⟩
  clear hK K hHeld
  have hHeld := hNew
  clear hNew
  try simp only [Act.put, List.setIfInBounds_toArray, List.set_cons_zero, List.set_cons_succ]
  refine wpAnyH_ready (rs := [5, 7]) (by kernel_rfl) (by simp) ?_
  refine AllReadyH.cons (o := ⟨some 80, _, _, _, _, _⟩) rfl (fun K hK => ?_) (AllReadyH.cons (o := ⟨some 5, _, _, _, _, _⟩) rfl (fun K hK => ?_) AllReadyH.nil)
  ·
   go_simp
   (with_reducible refine (zB8 ra _ (by omega) (by omega)).mono ?_)
   rintro e v2 ⟨qa, qk, qc, rfl, NN, FN, hb⟩
   replace H := (H.below hb).num NN
   clear NN FN hb
   go_wp2_with fail
   refine hK.out _ _ ?_ (fun hNew => ?_)
   ·exact ⟨H.cell (w.heap.size) 0 (.int .i64 mo), H.cell (w.heap.size) 1 (.int .i64 ra)⟩
   clear hK K hHeld
   have hHeld := hNew
   clear hNew
   try simp only [Act.put, List.setIfInBounds_toArray, List.set_cons_zero, List.set_cons_succ]
   refine wpAnyH_ready (rs := [6, 7]) (by kernel_rfl) (by simp) ?_
   refine AllReadyH.cons (o := ⟨some 81, _, _, _, _, _⟩) rfl (fun K hK => ?_) (AllReadyH.cons (o := ⟨some 5, _, _, _, _, _⟩) rfl (fun K hK => ?_) AllReadyH.nil)
   ·
    go_simp
    (with_reducible refine (zEk (.slice pa pk pc) (.slice qa qk qc) mo ra 5 5 _ (H.big (.slice pa pk pc) mo 5) (H.big (.slice qa qk qc) ra 5) (by omega) (by omega)).mono ?_)
    rintro e v3 ⟨sa, sk, sc, rfl, NN, FN, hb⟩
    replace H := (H.below hb).num NN
    clear NN FN hb
    go_wp2_with fail
    refine hK.out _ _ ?_ (fun hNew => ?_)
    ·exact ⟨H.cell (w.heap.size) 0 (.int .i64 mo), H.cell (w.heap.size) 1 (.int .i64 ra)⟩
    clear hK K hHeld
    have hHeld := hNew
    clear hNew
    try simp only [Act.put, List.setIfInBounds_toArray, List.set_cons_zero, List.set_cons_succ]
    refine wpAnyH_ready (rs := [7]) (by kernel_rfl) (by simp) ?_
    refine AllReadyH.cons (o := ⟨some 5, _, _, _, _, _⟩) rfl (fun K hK => ?_) AllReadyH.nil
    have HS : w.heap.size ≤ v3.heap.size := H.size
    have HT := H.lt (w.heap.size) 0 (.int .i64 mo)
    have H0 := H
    replace H := H.lone (v3.heap.size) (.slice none 0 0) 68 rfl
    go_simp
    refine hK.out _ _ ?_ (fun hNew => ?_)
    ·exact ⟨H.cell (w.heap.size) 0 (.int .i64 mo), H.cell (w.heap.size) 1 (.int .i64 ra)⟩
    clear hK K hHeld
    have hHeld := hNew
    clear hNew
    try simp only [Act.put, List.setIfInBounds_toArray, List.set_cons_zero, List.set_cons_succ]
    refine wpAnyH_ready (rs := [8]) (by kernel_rfl) (by simp) ?_
    refine AllReadyH.cons (o := ⟨none, _, _, _, _, _⟩) rfl (fun K hK => ?_) AllReadyH.nil
    have HF := H0.lone (v3.heap.size) (.slice sa sk sc) 68 rfl
    go_simp
    refine hK.out _ _ ?_ (fun hNew => ?_)
    ·exact ⟨HF.cell (w.heap.size) 0 (.int .i64 mo), HF.cell (w.heap.size) 1 (.int .i64 ra)⟩
    clear hK K hHeld
    have hHeld := hNew
    clear hNew
    try simp only [Act.put, List.setIfInBounds_toArray, List.set_cons_zero, List.set_cons_succ]
    clear H H0 HS HT
    have H := HF
    clear HF
    refine wpAnyH_done (by kernel_rfl) ?_ _
    clear hHeld
    replace H : Held w [.cell (v3.heap.size) 0 (.slice sa sk sc), .num (.slice sa sk sc) (mo * ra) 11] _ := H.sub (by intro f hf; simp only [List.mem_cons, List.not_mem_nil, or_false] at hf; rcases hf with rfl | rfl <;> exact (by repeat (first | with_reducible exact List.mem_cons_self | with_reducible apply List.mem_cons_of_mem)))
    obtain ⟨BZ, hBZ⟩ : ∃ BZ, v3.heap.size = BZ := ⟨_, rfl⟩
    rw [hBZ] at H ⊢
    have cz := H.cell BZ 0 (.slice sa sk sc)
    have lz := zA0 cz
    go_wp2_with fail
    clear cz lz
    have KS : Hid (∀ w' : World, Held w [.cell (BZ) 0 (.slice sa sk sc), .num (.slice sa sk sc) (mo * ra) 11] w' → w'.cell? ⟨BZ, 0, none⟩ = some (.slice sa sk sc) ∧ Held w [.cell (BZ) 0 (.slice sa sk sc), .num (.slice sa sk sc) (mo * ra) 11] w') := Lib.hid (fun _ h => ⟨h.cell BZ 0 (.slice sa sk sc), h⟩)
    have KH : Hid (∀ w' : World, w'.cell? ⟨BZ, 0, none⟩ = some (.slice sa sk sc) ∧ Held w [.cell (BZ) 0 (.slice sa sk sc), .num (.slice sa sk sc) (mo * ra) 11] w' → Held w [.cell (BZ) 0 (.slice sa sk sc), .num (.slice sa sk sc) (mo * ra) 11] w') := Lib.hid (fun _ h => h.2)
    have KN : Hid (∀ w' : World, w'.cell? ⟨BZ, 0, none⟩ = some (.slice sa sk sc) ∧ Held w [.cell (BZ) 0 (.slice sa sk sc), .num (.slice sa sk sc) (mo * ra) 11] w' → BigN w' (.slice sa sk sc) (mo * ra) 11) := Lib.hid (fun _ h => h.2.big (.slice sa sk sc) (mo * ra) 11)
    have HSS := Lib.hid (KS.out _ H.drew)
    go_region_held3 (fun w' => w'.cell? ⟨BZ, 0, none⟩ = some (.slice sa sk sc) ∧ Held w [.cell (BZ) 0 (.slice sa sk sc), .num (.slice sa sk sc) (mo * ra) 11] w')
     (first | exact HSS.out | (refine KS.out _ (Held.below (KH.out _ ?_) hb); assumption))
     (first
      | (go_at_call 33; (with_reducible refine (zB8 9000000000000000000 _ (by omega) (by omega)).mono ?_); rintro e w' ⟨xa, xk, xc, rfl, NX, -, hb⟩)
      | (go_at_call 34; (with_reducible refine (zHm (.slice sa sk sc) (.slice xa xk xc) (mo * ra) 9000000000000000000 11 5 _ (KN.out _ (by assumption)) NX (by omega) (by omega)).mono ?_); rw [HR.out]; rintro e w' ⟨rfl, hb⟩))
    have K9 := Lib.hid (KH.out _ (by assumption)).old
    go_wp2
    go_ret
    exact ⟨rfl, K9.out⟩
   ·
    have HS : w.heap.size ≤ v2.heap.size := H.size
    have HT := H.lt (w.heap.size) 0 (.int .i64 mo)
    have H0 := H
    replace H := H.lone (v2.heap.size) (.slice none 0 0) 68 rfl
    go_simp
    refine hK.out _ _ ?_ (fun hNew => ?_)
    ·exact ⟨H.cell (w.heap.size) 0 (.int .i64 mo), H.cell (w.heap.size) 1 (.int .i64 ra)⟩
    clear hK K hHeld
    have hHeld := hNew
    clear hNew
    try simp only [Act.put, List.setIfInBounds_toArray, List.set_cons_zero, List.set_cons_succ]
    refine wpAnyH_ready (rs := [6]) (by kernel_rfl) (by simp) ?_
    refine AllReadyH.cons (o := ⟨some 81, _, _, _, _, _⟩) rfl (fun K hK => ?_) AllReadyH.nil
    have LZ := H.lt (v2.heap.size) 0 (.slice none 0 0)
    go_simp
    (with_reducible refine (zEk (.slice pa pk pc) (.slice qa qk qc) mo ra 5 5 _ (H.big (.slice pa pk pc) mo 5) (H.big (.slice qa qk qc) ra 5) (by omega) (by omega)).mono ?_)
    rintro e v4 ⟨sa, sk, sc, rfl, NN, FN, hb⟩
    have FD : Hid (∀ g, (Value.slice sa sk sc).ownBlock = some g → g ≠ v2.heap.size) := Lib.hid (fun g hg => Nat.ne_of_gt (Nat.lt_of_lt_of_le LZ (FN g hg)))
    clear LZ
    replace H := (H.below hb).num NN
    clear NN FN hb
    go_wp2_with fail
    refine hK.out _ _ ?_ (fun hNew => ?_)
    ·exact ⟨H.cell (w.heap.size) 0 (.int .i64 mo), H.cell (w.heap.size) 1 (.int .i64 ra)⟩
    clear hK K hHeld
    have hHeld := hNew
    clear hNew
    try simp only [Act.put, List.setIfInBounds_toArray, List.set_cons_zero, List.set_cons_succ]
    refine wpAnyH_ready (rs := [8]) (by kernel_rfl) (by simp) ?_
    refine AllReadyH.cons (o := ⟨none, _, _, _, _, _⟩) rfl (fun K hK => ?_) AllReadyH.nil
    have HF := zD1 (gs := [.cell (w.heap.size) 0 (.int .i64 mo), .cell (w.heap.size) 1 (.int .i64 ra)]) (a := v2.heap.size) H (by intro f hf; simp only [List.mem_cons, List.not_mem_nil, or_false] at hf; rcases hf with rfl | rfl <;> exact (by repeat (first | with_reducible exact List.mem_cons_self | with_reducible apply List.mem_cons_of_mem))) HS (by intro f hf; simp only [List.mem_cons, List.not_mem_nil, or_false] at hf; rcases hf with rfl | rfl <;> exact Nat.ne_of_lt HT) (H.cell (v2.heap.size) 0 (.slice none 0 0)) (H.big (.slice sa sk sc) (mo * ra) 11) FD.out
    have cz0 := H.cell (v2.heap.size) 0 (.slice none 0 0)
    have fz0 := H.frozen (v2.heap.size) 0
    go_simp
    clear cz0 fz0
    refine hK.out _ _ ?_ (fun hNew => ?_)
    ·exact ⟨HF.cell (w.heap.size) 0 (.int .i64 mo), HF.cell (w.heap.size) 1 (.int .i64 ra)⟩
    clear hK K hHeld
    have hHeld := hNew
    clear hNew
    try simp only [Act.put, List.setIfInBounds_toArray, List.set_cons_zero, List.set_cons_succ]
    clear H H0 HS HT
    have H := HF
    clear HF
    refine wpAnyH_done (by kernel_rfl) ?_ _
    clear hHeld
    replace H : Held w [.cell (v2.heap.size) 0 (.slice sa sk sc), .num (.slice sa sk sc) (mo * ra) 11] _ := H.sub (by intro f hf; simp only [List.mem_cons, List.not_mem_nil, or_false] at hf; rcases hf with rfl | rfl <;> exact (by repeat (first | with_reducible exact List.mem_cons_self | with_reducible apply List.mem_cons_of_mem)))
    obtain ⟨BZ, hBZ⟩ : ∃ BZ, v2.heap.size = BZ := ⟨_, rfl⟩
    rw [hBZ] at H ⊢
    have cz := H.cell BZ 0 (.slice sa sk sc)
    have lz := zA0 cz
    go_wp2_with fail
    clear cz lz
    have KS : Hid (∀ w' : World, Held w [.cell (BZ) 0 (.slice sa sk sc), .num (.slice sa sk sc) (mo * ra) 11] w' → w'.cell? ⟨BZ, 0, none⟩ = some (.slice sa sk sc) ∧ Held w [.cell (BZ) 0 (.slice sa sk sc), .num (.slice sa sk sc) (mo * ra) 11] w') := Lib.hid (fun _ h => ⟨h.cell BZ 0 (.slice sa sk sc), h⟩)
    have KH : Hid (∀ w' : World, w'.cell? ⟨BZ, 0, none⟩ = some (.slice sa sk sc) ∧ Held w [.cell (BZ) 0 (.slice sa sk sc), .num (.slice sa sk sc) (mo * ra) 11] w' → Held w [.cell (BZ) 0 (.slice sa sk sc), .num (.slice sa sk sc) (mo * ra) 11] w') := Lib.hid (fun _ h => h.2)
    have KN : Hid (∀ w' : World, w'.cell? ⟨BZ, 0, none⟩ = some (.slice sa sk sc) ∧ Held w [.cell (BZ) 0 (.slice sa sk sc), .num (.slice sa sk sc) (mo * ra) 11] w' → BigN w' (.slice sa sk sc) (mo * ra) 11) := Lib.hid (fun _ h => h.2.big (.slice sa sk sc) (mo * ra) 11)
    have HSS := Lib.hid (KS.out _ H.drew)
    go_region_held3 (fun w' => w'.cell? ⟨BZ, 0, none⟩ = some (.slice sa sk sc) ∧ Held w [.cell (BZ) 0 (.slice sa sk sc), .num (.slice sa sk sc) (mo * ra) 11] w')
     (first | exact HSS.out | (refine KS.out _ (Held.below (KH.out _ ?_) hb); assumption))
     (first
      | (go_at_call 33; (with_reducible refine (zB8 9000000000000000000 _ (by omega) (by omega)).mono ?_); rintro e w' ⟨xa, xk, xc, rfl, NX, -, hb⟩)
      | (go_at_call 34; (with_reducible refine (zHm (.slice sa sk sc) (.slice xa xk xc) (mo * ra) 9000000000000000000 11 5 _ (KN.out _ (by assumption)) NX (by omega) (by omega)).mono ?_); rw [HR.out]; rintro e w' ⟨rfl, hb⟩))
    have K9 := Lib.hid (KH.out _ (by assumption)).old
    go_wp2
    go_ret
    exact ⟨rfl, K9.out⟩
  ·
   have HS : w.heap.size ≤ v1.heap.size := H.size
   have HT := H.lt (w.heap.size) 0 (.int .i64 mo)
   have H0 := H
   replace H := H.lone (v1.heap.size) (.slice none 0 0) 68 rfl
   go_simp
   refine hK.out _ _ ?_ (fun hNew => ?_)
   ·exact ⟨H.cell (w.heap.size) 0 (.int .i64 mo), H.cell (w.heap.size) 1 (.int .i64 ra)⟩
   clear hK K hHeld
   have hHeld := hNew
   clear hNew
   try simp only [Act.put, List.setIfInBounds_toArray, List.set_cons_zero, List.set_cons_succ]
   refine wpAnyH_ready (rs := [5]) (by kernel_rfl) (by simp) ?_
   refine AllReadyH.cons (o := ⟨some 80, _, _, _, _, _⟩) rfl (fun K hK => ?_) AllReadyH.nil
   go_simp
   (with_reducible refine (zB8 ra _ (by omega) (by omega)).mono ?_)
   rintro e v5 ⟨qa, qk, qc, rfl, NN, FN, hb⟩
   replace H := (H.below hb).num NN
   clear NN FN hb
   go_wp2_with fail
   refine hK.out _ _ ?_ (fun hNew => ?_)
   ·exact ⟨H.cell (w.heap.size) 0 (.int .i64 mo), H.cell (w.heap.size) 1 (.int .i64 ra)⟩
   clear hK K hHeld
   have hHeld := hNew
   clear hNew
   try simp only [Act.put, List.setIfInBounds_toArray, List.set_cons_zero, List.set_cons_succ]
   refine wpAnyH_ready (rs := [6]) (by kernel_rfl) (by simp) ?_
   refine AllReadyH.cons (o := ⟨some 81, _, _, _, _, _⟩) rfl (fun K hK => ?_) AllReadyH.nil
   have LZ := H.lt (v1.heap.size) 0 (.slice none 0 0)
   go_simp
   (with_reducible refine (zEk (.slice pa pk pc) (.slice qa qk qc) mo ra 5 5 _ (H.big (.slice pa pk pc) mo 5) (H.big (.slice qa qk qc) ra 5) (by omega) (by omega)).mono ?_)
   rintro e v6 ⟨sa, sk, sc, rfl, NN, FN, hb⟩
   have FD : Hid (∀ g, (Value.slice sa sk sc).ownBlock = some g → g ≠ v1.heap.size) := Lib.hid (fun g hg => Nat.ne_of_gt (Nat.lt_of_lt_of_le LZ (FN g hg)))
   clear LZ
   replace H := (H.below hb).num NN
   clear NN FN hb
   go_wp2_with fail
   refine hK.out _ _ ?_ (fun hNew => ?_)
   ·exact ⟨H.cell (w.heap.size) 0 (.int .i64 mo), H.cell (w.heap.size) 1 (.int .i64 ra)⟩
   clear hK K hHeld
   have hHeld := hNew
   clear hNew
   try simp only [Act.put, List.setIfInBounds_toArray, List.set_cons_zero, List.set_cons_succ]
   refine wpAnyH_ready (rs := [8]) (by kernel_rfl) (by simp) ?_
   refine AllReadyH.cons (o := ⟨none, _, _, _, _, _⟩) rfl (fun K hK => ?_) AllReadyH.nil
   have HF := zD1 (gs := [.cell (w.heap.size) 0 (.int .i64 mo), .cell (w.heap.size) 1 (.int .i64 ra)]) (a := v1.heap.size) H (by intro f hf; simp only [List.mem_cons, List.not_mem_nil, or_false] at hf; rcases hf with rfl | rfl <;> exact (by repeat (first | with_reducible exact List.mem_cons_self | with_reducible apply List.mem_cons_of_mem))) HS (by intro f hf; simp only [List.mem_cons, List.not_mem_nil, or_false] at hf; rcases hf with rfl | rfl <;> exact Nat.ne_of_lt HT) (H.cell (v1.heap.size) 0 (.slice none 0 0)) (H.big (.slice sa sk sc) (mo * ra) 11) FD.out
   have cz0 := H.cell (v1.heap.size) 0 (.slice none 0 0)
   have fz0 := H.frozen (v1.heap.size) 0
   go_simp
   clear cz0 fz0
   refine hK.out _ _ ?_ (fun hNew => ?_)
   ·exact ⟨HF.cell (w.heap.size) 0 (.int .i64 mo), HF.cell (w.heap.size) 1 (.int .i64 ra)⟩
   clear hK K hHeld
   have hHeld := hNew
   clear hNew
   try simp only [Act.put, List.setIfInBounds_toArray, List.set_cons_zero, List.set_cons_succ]
   clear H H0 HS HT
   have H := HF
   clear HF
   refine wpAnyH_done (by kernel_rfl) ?_ _
   clear hHeld
   replace H : Held w [.cell (v1.heap.size) 0 (.slice sa sk sc), .num (.slice sa sk sc) (mo * ra) 11] _ := H.sub (by intro f hf; simp only [List.mem_cons, List.not_mem_nil, or_false] at hf; rcases hf with rfl | rfl <;> exact (by repeat (first | with_reducible exact List.mem_cons_self | with_reducible apply List.mem_cons_of_mem)))
   obtain ⟨BZ, hBZ⟩ : ∃ BZ, v1.heap.size = BZ := ⟨_, rfl⟩
   rw [hBZ] at H ⊢
   have cz := H.cell BZ 0 (.slice sa sk sc)
   have lz := zA0 cz
   go_wp2_with fail
   clear cz lz
   have KS : Hid (∀ w' : World, Held w [.cell (BZ) 0 (.slice sa sk sc), .num (.slice sa sk sc) (mo * ra) 11] w' → w'.cell? ⟨BZ, 0, none⟩ = some (.slice sa sk sc) ∧ Held w [.cell (BZ) 0 (.slice sa sk sc), .num (.slice sa sk sc) (mo * ra) 11] w') := Lib.hid (fun _ h => ⟨h.cell BZ 0 (.slice sa sk sc), h⟩)
   have KH : Hid (∀ w' : World, w'.cell? ⟨BZ, 0, none⟩ = some (.slice sa sk sc) ∧ Held w [.cell (BZ) 0 (.slice sa sk sc), .num (.slice sa sk sc) (mo * ra) 11] w' → Held w [.cell (BZ) 0 (.slice sa sk sc), .num (.slice sa sk sc) (mo * ra) 11] w') := Lib.hid (fun _ h => h.2)
   have KN : Hid (∀ w' : World, w'.cell? ⟨BZ, 0, none⟩ = some (.slice sa sk sc) ∧ Held w [.cell (BZ) 0 (.slice sa sk sc), .num (.slice sa sk sc) (mo * ra) 11] w' → BigN w' (.slice sa sk sc) (mo * ra) 11) := Lib.hid (fun _ h => h.2.big (.slice sa sk sc) (mo * ra) 11)
   have HSS := Lib.hid (KS.out _ H.drew)
   go_region_held3 (fun w' => w'.cell? ⟨BZ, 0, none⟩ = some (.slice sa sk sc) ∧ Held w [.cell (BZ) 0 (.slice sa sk sc), .num (.slice sa sk sc) (mo * ra) 11] w')
    (first | exact HSS.out | (refine KS.out _ (Held.below (KH.out _ ?_) hb); assumption))
    (first
     | (go_at_call 33; (with_reducible refine (zB8 9000000000000000000 _ (by omega) (by omega)).mono ?_); rintro e w' ⟨xa, xk, xc, rfl, NX, -, hb⟩)
     | (go_at_call 34; (with_reducible refine (zHm (.slice sa sk sc) (.slice xa xk xc) (mo * ra) 9000000000000000000 11 5 _ (KN.out _ (by assumption)) NX (by omega) (by omega)).mono ?_); rw [HR.out]; rintro e w' ⟨rfl, hb⟩))
   have K9 := Lib.hid (KH.out _ (by assumption)).old
   go_wp2
   go_ret
   exact ⟨rfl, K9.out⟩
 ·
  have HS : w.heap.size ≤ WD.heap.size := H.size
  have HT := H.lt (w.heap.size) 0 (.int .i64 mo)
  have H0 := H
  replace H := H.lone (WD.heap.size) (.slice none 0 0) 68 rfl
  go_simp
  refine hK.out _ _ ?_ (fun hNew => ?_)
  ·exact ⟨H.cell (w.heap.size) 0 (.int .i64 mo), H.cell (w.heap.size) 1 (.int .i64 ra)⟩
  clear hK K hHeld
  have hHeld := hNew
  clear hNew
  try simp only [Act.put, List.setIfInBounds_toArray, List.set_cons_zero, List.set_cons_succ]
  refine wpAnyH_ready (rs := [2]) (by kernel_rfl) (by simp) ?_
  refine AllReadyH.cons (o := ⟨some 77, _, _, _, _, _⟩) rfl (fun K hK => ?_) AllReadyH.nil
  go_simp
  (with_reducible refine (zB8 mo _ (by omega) (by omega)).mono ?_)
  rintro e v7 ⟨pa, pk, pc, rfl, NN, FN, hb⟩
  replace H := (H.below hb).num NN
  clear NN FN hb
  go_wp2_with fail
  refine hK.out _ _ ?_ (fun hNew => ?_)
  ·exact ⟨H.cell (w.heap.size) 0 (.int .i64 mo), H.cell (w.heap.size) 1 (.int .i64 ra)⟩
  clear hK K hHeld
  have hHeld := hNew
  clear hNew
  try simp only [Act.put, List.setIfInBounds_toArray, List.set_cons_zero, List.set_cons_succ]
  refine wpAnyH_ready (rs := [5]) (by kernel_rfl) (by simp) ?_
  refine AllReadyH.cons (o := ⟨some 80, _, _, _, _, _⟩) rfl (fun K hK => ?_) AllReadyH.nil
  go_simp
  (with_reducible refine (zB8 ra _ (by omega) (by omega)).mono ?_)
  rintro e v8 ⟨qa, qk, qc, rfl, NN, FN, hb⟩
  replace H := (H.below hb).num NN
  clear NN FN hb
  go_wp2_with fail
  refine hK.out _ _ ?_ (fun hNew => ?_)
  ·exact ⟨H.cell (w.heap.size) 0 (.int .i64 mo), H.cell (w.heap.size) 1 (.int .i64 ra)⟩
  clear hK K hHeld
  have hHeld := hNew
  clear hNew
  try simp only [Act.put, List.setIfInBounds_toArray, List.set_cons_zero, List.set_cons_succ]
  refine wpAnyH_ready (rs := [6]) (by kernel_rfl) (by simp) ?_
  refine AllReadyH.cons (o := ⟨some 81, _, _, _, _, _⟩) rfl (fun K hK => ?_) AllReadyH.nil
  have LZ := H.lt (WD.heap.size) 0 (.slice none 0 0)
  go_simp
  (with_reducible refine (zEk (.slice pa pk pc) (.slice qa qk qc) mo ra 5 5 _ (H.big (.slice pa pk pc) mo 5) (H.big (.slice qa qk qc) ra 5) (by omega) (by omega)).mono ?_)
  rintro e v9 ⟨sa, sk, sc, rfl, NN, FN, hb⟩
  have FD : Hid (∀ g, (Value.slice sa sk sc).ownBlock = some g → g ≠ WD.heap.size) := Lib.hid (fun g hg => Nat.ne_of_gt (Nat.lt_of_lt_of_le LZ (FN g hg)))
  clear LZ
  replace H := (H.below hb).num NN
  clear NN FN hb
  go_wp2_with fail
  refine hK.out _ _ ?_ (fun hNew => ?_)
  ·exact ⟨H.cell (w.heap.size) 0 (.int .i64 mo), H.cell (w.heap.size) 1 (.int .i64 ra)⟩
  clear hK K hHeld
  have hHeld := hNew
  clear hNew
  try simp only [Act.put, List.setIfInBounds_toArray, List.set_cons_zero, List.set_cons_succ]
  refine wpAnyH_ready (rs := [8]) (by kernel_rfl) (by simp) ?_
  refine AllReadyH.cons (o := ⟨none, _, _, _, _, _⟩) rfl (fun K hK => ?_) AllReadyH.nil
  have HF := zD1 (gs := [.cell (w.heap.size) 0 (.int .i64 mo), .cell (w.heap.size) 1 (.int .i64 ra)]) (a := WD.heap.size) H (by intro f hf; simp only [List.mem_cons, List.not_mem_nil, or_false] at hf; rcases hf with rfl | rfl <;> exact (by repeat (first | with_reducible exact List.mem_cons_self | with_reducible apply List.mem_cons_of_mem))) HS (by intro f hf; simp only [List.mem_cons, List.not_mem_nil, or_false] at hf; rcases hf with rfl | rfl <;> exact Nat.ne_of_lt HT) (H.cell (WD.heap.size) 0 (.slice none 0 0)) (H.big (.slice sa sk sc) (mo * ra) 11) FD.out
  have cz0 := H.cell (WD.heap.size) 0 (.slice none 0 0)
  have fz0 := H.frozen (WD.heap.size) 0
  go_simp
  clear cz0 fz0
  refine hK.out _ _ ?_ (fun hNew => ?_)
  ·exact ⟨HF.cell (w.heap.size) 0 (.int .i64 mo), HF.cell (w.heap.size) 1 (.int .i64 ra)⟩
  clear hK K hHeld
  have hHeld := hNew
  clear hNew
  try simp only [Act.put, List.setIfInBounds_toArray, List.set_cons_zero, List.set_cons_succ]
  clear H H0 HS HT
  have H := HF
  clear HF
  refine wpAnyH_done (by kernel_rfl) ?_ _
  clear hHeld
  replace H : Held w [.cell (WD.heap.size) 0 (.slice sa sk sc), .num (.slice sa sk sc) (mo * ra) 11] _ := H.sub (by intro f hf; simp only [List.mem_cons, List.not_mem_nil, or_false] at hf; rcases hf with rfl | rfl <;> exact (by repeat (first | with_reducible exact List.mem_cons_self | with_reducible apply List.mem_cons_of_mem)))
  obtain ⟨BZ, hBZ⟩ : ∃ BZ, WD.heap.size = BZ := ⟨_, rfl⟩
  rw [hBZ] at H ⊢
  have cz := H.cell BZ 0 (.slice sa sk sc)
  have lz := zA0 cz
  go_wp2_with fail
  clear cz lz
  have KS : Hid (∀ w' : World, Held w [.cell (BZ) 0 (.slice sa sk sc), .num (.slice sa sk sc) (mo * ra) 11] w' → w'.cell? ⟨BZ, 0, none⟩ = some (.slice sa sk sc) ∧ Held w [.cell (BZ) 0 (.slice sa sk sc), .num (.slice sa sk sc) (mo * ra) 11] w') := Lib.hid (fun _ h => ⟨h.cell BZ 0 (.slice sa sk sc), h⟩)
  have KH : Hid (∀ w' : World, w'.cell? ⟨BZ, 0, none⟩ = some (.slice sa sk sc) ∧ Held w [.cell (BZ) 0 (.slice sa sk sc), .num (.slice sa sk sc) (mo * ra) 11] w' → Held w [.cell (BZ) 0 (.slice sa sk sc), .num (.slice sa sk sc) (mo * ra) 11] w') := Lib.hid (fun _ h => h.2)
  have KN : Hid (∀ w' : World, w'.cell? ⟨BZ, 0, none⟩ = some (.slice sa sk sc) ∧ Held w [.cell (BZ) 0 (.slice sa sk sc), .num (.slice sa sk sc) (mo * ra) 11] w' → BigN w' (.slice sa sk sc) (mo * ra) 11) := Lib.hid (fun _ h => h.2.big (.slice sa sk sc) (mo * ra) 11)
  have HSS := Lib.hid (KS.out _ H.drew)
  go_region_held3 (fun w' => w'.cell? ⟨BZ, 0, none⟩ = some (.slice sa sk sc) ∧ Held w [.cell (BZ) 0 (.slice sa sk sc), .num (.slice sa sk sc) (mo * ra) 11] w')
   (first | exact HSS.out | (refine KS.out _ (Held.below (KH.out _ ?_) hb); assumption))
   (first
    | (go_at_call 33; (with_reducible refine (zB8 9000000000000000000 _ (by omega) (by omega)).mono ?_); rintro e w' ⟨xa, xk, xc, rfl, NX, -, hb⟩)
    | (go_at_call 34; (with_reducible refine (zHm (.slice sa sk sc) (.slice xa xk xc) (mo * ra) 9000000000000000000 11 5 _ (KN.out _ (by assumption)) NX (by omega) (by omega)).mono ?_); rw [HR.out]; rintro e w' ⟨rfl, hb⟩))
  have K9 := Lib.hid (KH.out _ (by assumption)).old
  go_wp2
  go_ret
  exact ⟨rfl, K9.out⟩
theorem zMx (mo ra ki co st en ms : Int) (bk lg eo : Bool) (ro : Int) (e1 : decide (ki < 0) = false) (e2 : decide (ki > 2) = false) (e3 : decide (co < 0) = false) (e4 : decide (co > 6) = false) (e5 : decide (ro < 0) = false) (e6 : decide (ro > 4) = false) (f : Int) (e7 : fr ms = f) (e8 : (f == 0) = false) (e9 : decide (1 ≤ st ∧ st ≤ 3652059) = true) (e10 : decide (1 ≤ en ∧ en ≤ 3652059) = true) (e11 : decide (st ≥ en) = false) (e12 : decide (mo < 1) = false) (e13 : decide (mo > 1000000000000000) = false) (e14 : decide (ra < 0) = false) (e15 : decide (ra > 1000000) = false) (hm : 1 ≤ mo ∧ mo ≤ 1000000000000000) (hr : 0 ≤ ra ∧ ra ≤ 1000000) (r : Int) (hR : cmpI (mo * ra) 9000000000000000000 = r) (e16 : decide (r > 0) = false) (w : World) : Calls Tryz.prog 14 #[.agg #[.int .i64 mo, .int .i64 ra, .int .i64 ki, .int .i64 co, .int .i64 st, .int .i64 en, .int .i64 ms, .bool bk, .bool lg, .bool eo, .int .i64 ro]] w fun e w' => e = .returned (.int .i64 0) ∧ Below w.heap.size w w' := by
 have H := Held.start w
 have HR := Lib.hid hR
 clear hR
 go_enter Tryz.func14, Tryz.ntmps14
 repeat' (first | simp only [List.append_eq, List.cons_append, List.nil_append] | go_values | go_skip | go_guarded | go_step | go_upon)
 replace H := H.box_11 (w.heap.size) (.int .i64 mo) (.int .i64 ra) (.int .i64 ki) (.int .i64 co) (.int .i64 st) (.int .i64 en) (.int .i64 ms) (.bool bk) (.bool lg) (.bool eo) (.int .i64 ro) 23 rfl
 (with_reducible refine (zC1 ms f _ e7).mono ?_)
 rintro e w1 ⟨rfl, hb⟩
 replace H := H.below hb
 clear hb
 obtain ⟨ct0, ct1, ct2, ct3, ct4, ct5, ct6, ct7, ct8, ct9, ct10⟩ := H.cells11 (w.heap.size)
 have lt := zA0 ct0
 repeat' (first | simp only [List.append_eq, List.cons_append, List.nil_append] | go_values | go_skip | go_guarded | go_step | go_upon)
 clear ct0 ct1 ct2 ct3 ct4 ct5 ct6 ct7 ct8 ct9 ct10 lt
 (with_reducible refine (zAf st _ _ e9).mono ?_)
 rintro e w2 ⟨rfl, hb⟩
 replace H := H.below hb
 clear hb
 obtain ⟨ct0, ct1, ct2, ct3, ct4, ct5, ct6, ct7, ct8, ct9, ct10⟩ := H.cells11 (w.heap.size)
 have lt := zA0 ct0
 repeat' (first | simp only [List.append_eq, List.cons_append, List.nil_append] | go_values | go_skip | go_guarded | go_step | go_upon)
 clear ct0 ct1 ct2 ct3 ct4 ct5 ct6 ct7 ct8 ct9 ct10 lt
 (with_reducible refine (zAf en _ _ e10).mono ?_)
 rintro e w3 ⟨rfl, hb⟩
 replace H := H.below hb
 clear hb
 obtain ⟨ct0, ct1, ct2, ct3, ct4, ct5, ct6, ct7, ct8, ct9, ct10⟩ := H.cells11 (w.heap.size)
 have lt := zA0 ct0
 repeat' (first | simp only [List.append_eq, List.cons_append, List.nil_append] | go_values | go_skip | go_guarded | go_step | go_upon)
 clear ct0 ct1 ct2 ct3 ct4 ct5 ct6 ct7 ct8 ct9 ct10 lt
 replace H := H.drew
 refine wp_region_held_drew (S := fun w' => w'.cell? ⟨w.heap.size, 0, none⟩ = some (.int .i64 mo) ∧ w'.cell? ⟨w.heap.size, 1, none⟩ = some (.int .i64 ra)) (by kernel_rfl) (⟨H.cell (w.heap.size) 0 (.int .i64 mo), H.cell (w.heap.size) 1 (.int .i64 ra)⟩) (fun hHeld => ?_)
 obtain ⟨WD, hWD⟩ : ∃ WD, World.drew w3 = WD := ⟨_, rfl⟩
 rw [hWD] at H hHeld ⊢
 clear hWD
 refine wpAnyH_take (i := 0) (oi := ⟨some 75, _, _, _, _, _⟩) (v := ?_) rfl (by kernel_rfl) (by kernel_rfl) (by kernel_rfl) (fun _ _ _ h => h) (Or.inl ⟨by rfl, ?_⟩) (by assumption) ?_
 rotate_left
 ·intro w hSw; (try dsimp only at hSw); go_simp; try with_reducible rfl
 simp only [Act.put, List.setIfInBounds_toArray, List.set_cons_zero, List.set_cons_succ]
 refine wpAnyH_take (i := 1) (oi := ⟨some 76, _, _, _, _, _⟩) (v := ?_) rfl (by kernel_rfl) (by kernel_rfl) (by kernel_rfl) (fun _ _ _ h => h) (Or.inl ⟨by rfl, ?_⟩) (by assumption) ?_
 rotate_left
 ·intro w hSw; (try dsimp only at hSw); go_simp; try with_reducible rfl
 simp only [Act.put, List.setIfInBounds_toArray, List.set_cons_zero, List.set_cons_succ]
 refine wpAnyH_take (i := 3) (oi := ⟨some 78, _, _, _, _, _⟩) (v := ?_) rfl (by kernel_rfl) (by kernel_rfl) (by kernel_rfl) (fun _ _ _ h => h) (Or.inl ⟨by rfl, ?_⟩) (by assumption) ?_
 rotate_left
 ·intro w hSw; (try dsimp only at hSw); go_simp; try with_reducible rfl
 simp only [Act.put, List.setIfInBounds_toArray, List.set_cons_zero, List.set_cons_succ]
 refine wpAnyH_take (i := 4) (oi := ⟨some 79, _, _, _, _, _⟩) (v := ?_) rfl (by kernel_rfl) (by kernel_rfl) (by kernel_rfl) (fun _ _ _ h => h) (Or.inl ⟨by rfl, ?_⟩) (by assumption) ?_
 rotate_left
 ·intro w hSw; (try dsimp only at hSw); go_simp; try with_reducible rfl
 simp only [Act.put, List.setIfInBounds_toArray, List.set_cons_zero, List.set_cons_succ]
 refine wpAnyH_ready (rs := [2, 7]) (by kernel_rfl) (by simp) ?_
 refine AllReadyH.cons (o := ⟨some 77, _, _, _, _, _⟩) rfl (fun K hK => ?_) (AllReadyH.cons (o := ⟨some 5, _, _, _, _, _⟩) rfl (fun K hK => ?_) AllReadyH.nil)
 ·
  go_simp
  (with_reducible refine (zB8 mo _ (by omega) (by omega)).mono ?_)
  rintro e v1 ⟨pa, pk, pc, rfl, NN, FN, hb⟩
  replace H := (H.below hb).num NN
  clear NN FN hb
  go_wp2_with fail
  refine hK.out _ _ ?_ (fun hNew => ?_)
  ·exact ⟨H.cell (w.heap.size) 0 (.int .i64 mo), H.cell (w.heap.size) 1 (.int .i64 ra)⟩
  clear hK K hHeld
  have hHeld := hNew
  clear hNew
  try simp only [Act.put, List.setIfInBounds_toArray, List.set_cons_zero, List.set_cons_succ]
  refine wpAnyH_ready (rs := [5, 7]) (by kernel_rfl) (by simp) ?_
  refine AllReadyH.cons (o := ⟨some 80, _, _, _, _, _⟩) rfl (fun K hK => ?_) (AllReadyH.cons (o := ⟨some 5, _, _, _, _, _⟩) rfl (fun K hK => ?_) AllReadyH.nil)
  ·
   go_simp
   (with_reducible refine (zB8 ra _ (by omega) (by omega)).mono ?_)
   rintro e v2 ⟨qa, qk, qc, rfl, NN, FN, hb⟩
   replace H := (H.below hb).num NN
   clear NN FN hb
   go_wp2_with fail
   refine hK.out _ _ ?_ (fun hNew => ?_)
   ·exact ⟨H.cell (w.heap.size) 0 (.int .i64 mo), H.cell (w.heap.size) 1 (.int .i64 ra)⟩
   clear hK K hHeld
   have hHeld := hNew
   clear hNew
   try simp only [Act.put, List.setIfInBounds_toArray, List.set_cons_zero, List.set_cons_succ]
   refine wpAnyH_ready (rs := [6, 7]) (by kernel_rfl) (by simp) ?_
   refine AllReadyH.cons (o := ⟨some 81, _, _, _, _, _⟩) rfl (fun K hK => ?_) (AllReadyH.cons (o := ⟨some 5, _, _, _, _, _⟩) rfl (fun K hK => ?_) AllReadyH.nil)
   ·
    go_simp
    (with_reducible refine (zEk (.slice pa pk pc) (.slice qa qk qc) mo ra 5 5 _ (H.big (.slice pa pk pc) mo 5) (H.big (.slice qa qk qc) ra 5) (by omega) (by omega)).mono ?_)
    rintro e v3 ⟨sa, sk, sc, rfl, NN, FN, hb⟩
    replace H := (H.below hb).num NN
    clear NN FN hb
    go_wp2_with fail
    refine hK.out _ _ ?_ (fun hNew => ?_)
    ·exact ⟨H.cell (w.heap.size) 0 (.int .i64 mo), H.cell (w.heap.size) 1 (.int .i64 ra)⟩
    clear hK K hHeld
    have hHeld := hNew
    clear hNew
    try simp only [Act.put, List.setIfInBounds_toArray, List.set_cons_zero, List.set_cons_succ]
    refine wpAnyH_ready (rs := [7]) (by kernel_rfl) (by simp) ?_
    refine AllReadyH.cons (o := ⟨some 5, _, _, _, _, _⟩) rfl (fun K hK => ?_) AllReadyH.nil
    have HS : w.heap.size ≤ v3.heap.size := H.size
    have HT := H.lt (w.heap.size) 0 (.int .i64 mo)
    have H0 := H
    replace H := H.lone (v3.heap.size) (.slice none 0 0) 68 rfl
    go_simp
    refine hK.out _ _ ?_ (fun hNew => ?_)
    ·exact ⟨H.cell (w.heap.size) 0 (.int .i64 mo), H.cell (w.heap.size) 1 (.int .i64 ra)⟩
    clear hK K hHeld
    have hHeld := hNew
    clear hNew
    try simp only [Act.put, List.setIfInBounds_toArray, List.set_cons_zero, List.set_cons_succ]
    refine wpAnyH_ready (rs := [8]) (by kernel_rfl) (by simp) ?_
    refine AllReadyH.cons (o := ⟨none, _, _, _, _, _⟩) rfl (fun K hK => ?_) AllReadyH.nil
    have HF := H0.lone (v3.heap.size) (.slice sa sk sc) 68 rfl
    go_simp
    refine hK.out _ _ ?_ (fun hNew => ?_)
    ·exact ⟨HF.cell (w.heap.size) 0 (.int .i64 mo), HF.cell (w.heap.size) 1 (.int .i64 ra)⟩
    clear hK K hHeld
    have hHeld := hNew
    clear hNew
    try simp only [Act.put, List.setIfInBounds_toArray, List.set_cons_zero, List.set_cons_succ]
    clear H H0 HS HT
    have H := HF
    clear HF
    refine wpAnyH_done (by kernel_rfl) ?_ _
    clear hHeld
    replace H : Held w [.cell (v3.heap.size) 0 (.slice sa sk sc), .num (.slice sa sk sc) (mo * ra) 11] _ := H.sub (by intro f hf; simp only [List.mem_cons, List.not_mem_nil, or_false] at hf; rcases hf with rfl | rfl <;> exact (by repeat (first | with_reducible exact List.mem_cons_self | with_reducible apply List.mem_cons_of_mem)))
    obtain ⟨BZ, hBZ⟩ : ∃ BZ, v3.heap.size = BZ := ⟨_, rfl⟩
    rw [hBZ] at H ⊢
    have cz := H.cell BZ 0 (.slice sa sk sc)
    have lz := zA0 cz
    go_wp2_with fail
    clear cz lz
    have KS : Hid (∀ w' : World, Held w [.cell (BZ) 0 (.slice sa sk sc), .num (.slice sa sk sc) (mo * ra) 11] w' → w'.cell? ⟨BZ, 0, none⟩ = some (.slice sa sk sc) ∧ Held w [.cell (BZ) 0 (.slice sa sk sc), .num (.slice sa sk sc) (mo * ra) 11] w') := Lib.hid (fun _ h => ⟨h.cell BZ 0 (.slice sa sk sc), h⟩)
    have KH : Hid (∀ w' : World, w'.cell? ⟨BZ, 0, none⟩ = some (.slice sa sk sc) ∧ Held w [.cell (BZ) 0 (.slice sa sk sc), .num (.slice sa sk sc) (mo * ra) 11] w' → Held w [.cell (BZ) 0 (.slice sa sk sc), .num (.slice sa sk sc) (mo * ra) 11] w') := Lib.hid (fun _ h => h.2)
    have KN : Hid (∀ w' : World, w'.cell? ⟨BZ, 0, none⟩ = some (.slice sa sk sc) ∧ Held w [.cell (BZ) 0 (.slice sa sk sc), .num (.slice sa sk sc) (mo * ra) 11] w' → BigN w' (.slice sa sk sc) (mo * ra) 11) := Lib.hid (fun _ h => h.2.big (.slice sa sk sc) (mo * ra) 11)
    have HSS := Lib.hid (KS.out _ H.drew)
    go_region_held3 (fun w' => w'.cell? ⟨BZ, 0, none⟩ = some (.slice sa sk sc) ∧ Held w [.cell (BZ) 0 (.slice sa sk sc), .num (.slice sa sk sc) (mo * ra) 11] w')
     (first | exact HSS.out | (refine KS.out _ (Held.below (KH.out _ ?_) hb); assumption))
     (first
      | (go_at_call 33; (with_reducible refine (zB8 9000000000000000000 _ (by omega) (by omega)).mono ?_); rintro e w' ⟨xa, xk, xc, rfl, NX, -, hb⟩)
      | (go_at_call 34; (with_reducible refine (zHm (.slice sa sk sc) (.slice xa xk xc) (mo * ra) 9000000000000000000 11 5 _ (KN.out _ (by assumption)) NX (by omega) (by omega)).mono ?_); rw [HR.out]; rintro e w' ⟨rfl, hb⟩))
    have K9 := Lib.hid (KH.out _ (by assumption)).old
    go_wp2
    go_ret
    exact ⟨rfl, K9.out⟩
   ·
    have HS : w.heap.size ≤ v2.heap.size := H.size
    have HT := H.lt (w.heap.size) 0 (.int .i64 mo)
    have H0 := H
    replace H := H.lone (v2.heap.size) (.slice none 0 0) 68 rfl
    go_simp
    refine hK.out _ _ ?_ (fun hNew => ?_)
    ·exact ⟨H.cell (w.heap.size) 0 (.int .i64 mo), H.cell (w.heap.size) 1 (.int .i64 ra)⟩
    clear hK K hHeld
    have hHeld := hNew
    clear hNew
    try simp only [Act.put, List.setIfInBounds_toArray, List.set_cons_zero, List.set_cons_succ]
    refine wpAnyH_ready (rs := [6]) (by kernel_rfl) (by simp) ?_
    refine AllReadyH.cons (o := ⟨some 81, _, _, _, _, _⟩) rfl (fun K hK => ?_) AllReadyH.nil
    have LZ := H.lt (v2.heap.size) 0 (.slice none 0 0)
    go_simp
    (with_reducible refine (zEk (.slice pa pk pc) (.slice qa qk qc) mo ra 5 5 _ (H.big (.slice pa pk pc) mo 5) (H.big (.slice qa qk qc) ra 5) (by omega) (by omega)).mono ?_)
    rintro e v4 ⟨sa, sk, sc, rfl, NN, FN, hb⟩
    have FD : Hid (∀ g, (Value.slice sa sk sc).ownBlock = some g → g ≠ v2.heap.size) := Lib.hid (fun g hg => Nat.ne_of_gt (Nat.lt_of_lt_of_le LZ (FN g hg)))
    clear LZ
    replace H := (H.below hb).num NN
    clear NN FN hb
    go_wp2_with fail
    refine hK.out _ _ ?_ (fun hNew => ?_)
    ·exact ⟨H.cell (w.heap.size) 0 (.int .i64 mo), H.cell (w.heap.size) 1 (.int .i64 ra)⟩
    clear hK K hHeld
    have hHeld := hNew
    clear hNew
    try simp only [Act.put, List.setIfInBounds_toArray, List.set_cons_zero, List.set_cons_succ]
    refine wpAnyH_ready (rs := [8]) (by kernel_rfl) (by simp) ?_
    refine AllReadyH.cons (o := ⟨none, _, _, _, _, _⟩) rfl (fun K hK => ?_) AllReadyH.nil
    have HF := zD1 (gs := [.cell (w.heap.size) 0 (.int .i64 mo), .cell (w.heap.size) 1 (.int .i64 ra)]) (a := v2.heap.size) H (by intro f hf; simp only [List.mem_cons, List.not_mem_nil, or_false] at hf; rcases hf with rfl | rfl <;> exact (by repeat (first | with_reducible exact List.mem_cons_self | with_reducible apply List.mem_cons_of_mem))) HS (by intro f hf; simp only [List.mem_cons, List.not_mem_nil, or_false] at hf; rcases hf with rfl | rfl <;> exact Nat.ne_of_lt HT) (H.cell (v2.heap.size) 0 (.slice none 0 0)) (H.big (.slice sa sk sc) (mo * ra) 11) FD.out
    have cz0 := H.cell (v2.heap.size) 0 (.slice none 0 0)
    have fz0 := H.frozen (v2.heap.size) 0
    go_simp
    clear cz0 fz0
    refine hK.out _ _ ?_ (fun hNew => ?_)
    ·exact ⟨HF.cell (w.heap.size) 0 (.int .i64 mo), HF.cell (w.heap.size) 1 (.int .i64 ra)⟩
    clear hK K hHeld
    have hHeld := hNew
    clear hNew
    try simp only [Act.put, List.setIfInBounds_toArray, List.set_cons_zero, List.set_cons_succ]
    clear H H0 HS HT
    have H := HF
    clear HF
    refine wpAnyH_done (by kernel_rfl) ?_ _
    clear hHeld
    replace H : Held w [.cell (v2.heap.size) 0 (.slice sa sk sc), .num (.slice sa sk sc) (mo * ra) 11] _ := H.sub (by intro f hf; simp only [List.mem_cons, List.not_mem_nil, or_false] at hf; rcases hf with rfl | rfl <;> exact (by repeat (first | with_reducible exact List.mem_cons_self | with_reducible apply List.mem_cons_of_mem)))
    obtain ⟨BZ, hBZ⟩ : ∃ BZ, v2.heap.size = BZ := ⟨_, rfl⟩
    rw [hBZ] at H ⊢
    have cz := H.cell BZ 0 (.slice sa sk sc)
    have lz := zA0 cz
    go_wp2_with fail
    clear cz lz
    have KS : Hid (∀ w' : World, Held w [.cell (BZ) 0 (.slice sa sk sc), .num (.slice sa sk sc) (mo * ra) 11] w' → w'.cell? ⟨BZ, 0, none⟩ = some (.slice sa sk sc) ∧ Held w [.cell (BZ) 0 (.slice sa sk sc), .num (.slice sa sk sc) (mo * ra) 11] w') := Lib.hid (fun _ h => ⟨h.cell BZ 0 (.slice sa sk sc), h⟩)
    have KH : Hid (∀ w' : World, w'.cell? ⟨BZ, 0, none⟩ = some (.slice sa sk sc) ∧ Held w [.cell (BZ) 0 (.slice sa sk sc), .num (.slice sa sk sc) (mo * ra) 11] w' → Held w [.cell (BZ) 0 (.slice sa sk sc), .num (.slice sa sk sc) (mo * ra) 11] w') := Lib.hid (fun _ h => h.2)
    have KN : Hid (∀ w' : World, w'.cell? ⟨BZ, 0, none⟩ = some (.slice sa sk sc) ∧ Held w [.cell (BZ) 0 (.slice sa sk sc), .num (.slice sa sk sc) (mo * ra) 11] w' → BigN w' (.slice sa sk sc) (mo * ra) 11) := Lib.hid (fun _ h => h.2.big (.slice sa sk sc) (mo * ra) 11)
    have HSS := Lib.hid (KS.out _ H.drew)
    go_region_held3 (fun w' => w'.cell? ⟨BZ, 0, none⟩ = some (.slice sa sk sc) ∧ Held w [.cell (BZ) 0 (.slice sa sk sc), .num (.slice sa sk sc) (mo * ra) 11] w')
     (first | exact HSS.out | (refine KS.out _ (Held.below (KH.out _ ?_) hb); assumption))
     (first
      | (go_at_call 33; (with_reducible refine (zB8 9000000000000000000 _ (by omega) (by omega)).mono ?_); rintro e w' ⟨xa, xk, xc, rfl, NX, -, hb⟩)
      | (go_at_call 34; (with_reducible refine (zHm (.slice sa sk sc) (.slice xa xk xc) (mo * ra) 9000000000000000000 11 5 _ (KN.out _ (by assumption)) NX (by omega) (by omega)).mono ?_); rw [HR.out]; rintro e w' ⟨rfl, hb⟩))
    have K9 := Lib.hid (KH.out _ (by assumption)).old
    go_wp2
    go_ret
    exact ⟨rfl, K9.out⟩
  ·
   have HS : w.heap.size ≤ v1.heap.size := H.size
   have HT := H.lt (w.heap.size) 0 (.int .i64 mo)
   have H0 := H
   replace H := H.lone (v1.heap.size) (.slice none 0 0) 68 rfl
   go_simp
   refine hK.out _ _ ?_ (fun hNew => ?_)
   ·exact ⟨H.cell (w.heap.size) 0 (.int .i64 mo), H.cell (w.heap.size) 1 (.int .i64 ra)⟩
   clear hK K hHeld
   have hHeld := hNew
   clear hNew
   try simp only [Act.put, List.setIfInBounds_toArray, List.set_cons_zero, List.set_cons_succ]
   refine wpAnyH_ready (rs := [5]) (by kernel_rfl) (by simp) ?_
   refine AllReadyH.cons (o := ⟨some 80, _, _, _, _, _⟩) rfl (fun K hK => ?_) AllReadyH.nil
   go_simp
   (with_reducible refine (zB8 ra _ (by omega) (by omega)).mono ?_)
   rintro e v5 ⟨qa, qk, qc, rfl, NN, FN, hb⟩
   replace H := (H.below hb).num NN
   clear NN FN hb
   go_wp2_with fail
   refine hK.out _ _ ?_ (fun hNew => ?_)
   ·exact ⟨H.cell (w.heap.size) 0 (.int .i64 mo), H.cell (w.heap.size) 1 (.int .i64 ra)⟩
   clear hK K hHeld
   have hHeld := hNew
   clear hNew
   try simp only [Act.put, List.setIfInBounds_toArray, List.set_cons_zero, List.set_cons_succ]
   refine wpAnyH_ready (rs := [6]) (by kernel_rfl) (by simp) ?_
   refine AllReadyH.cons (o := ⟨some 81, _, _, _, _, _⟩) rfl (fun K hK => ?_) AllReadyH.nil
   have LZ := H.lt (v1.heap.size) 0 (.slice none 0 0)
   go_simp
   (with_reducible refine (zEk (.slice pa pk pc) (.slice qa qk qc) mo ra 5 5 _ (H.big (.slice pa pk pc) mo 5) (H.big (.slice qa qk qc) ra 5) (by omega) (by omega)).mono ?_)
   rintro e v6 ⟨sa, sk, sc, rfl, NN, FN, hb⟩
   have FD : Hid (∀ g, (Value.slice sa sk sc).ownBlock = some g → g ≠ v1.heap.size) := Lib.hid (fun g hg => Nat.ne_of_gt (Nat.lt_of_lt_of_le LZ (FN g hg)))
   clear LZ
   replace H := (H.below hb).num NN
   clear NN FN hb
   go_wp2_with fail
   refine hK.out _ _ ?_ (fun hNew => ?_)
   ·exact ⟨H.cell (w.heap.size) 0 (.int .i64 mo), H.cell (w.heap.size) 1 (.int .i64 ra)⟩
   clear hK K hHeld
   have hHeld := hNew
   clear hNew
   try simp only [Act.put, List.setIfInBounds_toArray, List.set_cons_zero, List.set_cons_succ]
   refine wpAnyH_ready (rs := [8]) (by kernel_rfl) (by simp) ?_
   refine AllReadyH.cons (o := ⟨none, _, _, _, _, _⟩) rfl (fun K hK => ?_) AllReadyH.nil
   have HF := zD1 (gs := [.cell (w.heap.size) 0 (.int .i64 mo), .cell (w.heap.size) 1 (.int .i64 ra)]) (a := v1.heap.size) H (by intro f hf; simp only [List.mem_cons, List.not_mem_nil, or_false] at hf; rcases hf with rfl | rfl <;> exact (by repeat (first | with_reducible exact List.mem_cons_self | with_reducible apply List.mem_cons_of_mem))) HS (by intro f hf; simp only [List.mem_cons, List.not_mem_nil, or_false] at hf; rcases hf with rfl | rfl <;> exact Nat.ne_of_lt HT) (H.cell (v1.heap.size) 0 (.slice none 0 0)) (H.big (.slice sa sk sc) (mo * ra) 11) FD.out
   have cz0 := H.cell (v1.heap.size) 0 (.slice none 0 0)
   have fz0 := H.frozen (v1.heap.size) 0
   go_simp
   clear cz0 fz0
   refine hK.out _ _ ?_ (fun hNew => ?_)
   ·exact ⟨HF.cell (w.heap.size) 0 (.int .i64 mo), HF.cell (w.heap.size) 1 (.int .i64 ra)⟩
   clear hK K hHeld
   have hHeld := hNew
   clear hNew
   try simp only [Act.put, List.setIfInBounds_toArray, List.set_cons_zero, List.set_cons_succ]
   clear H H0 HS HT
   have H := HF
   clear HF
   refine wpAnyH_done (by kernel_rfl) ?_ _
   clear hHeld
   replace H : Held w [.cell (v1.heap.size) 0 (.slice sa sk sc), .num (.slice sa sk sc) (mo * ra) 11] _ := H.sub (by intro f hf; simp only [List.mem_cons, List.not_mem_nil, or_false] at hf; rcases hf with rfl | rfl <;> exact (by repeat (first | with_reducible exact List.mem_cons_self | with_reducible apply List.mem_cons_of_mem)))
   obtain ⟨BZ, hBZ⟩ : ∃ BZ, v1.heap.size = BZ := ⟨_, rfl⟩
   rw [hBZ] at H ⊢
   have cz := H.cell BZ 0 (.slice sa sk sc)
   have lz := zA0 cz
   go_wp2_with fail
   clear cz lz
   have KS : Hid (∀ w' : World, Held w [.cell (BZ) 0 (.slice sa sk sc), .num (.slice sa sk sc) (mo * ra) 11] w' → w'.cell? ⟨BZ, 0, none⟩ = some (.slice sa sk sc) ∧ Held w [.cell (BZ) 0 (.slice sa sk sc), .num (.slice sa sk sc) (mo * ra) 11] w') := Lib.hid (fun _ h => ⟨h.cell BZ 0 (.slice sa sk sc), h⟩)
   have KH : Hid (∀ w' : World, w'.cell? ⟨BZ, 0, none⟩ = some (.slice sa sk sc) ∧ Held w [.cell (BZ) 0 (.slice sa sk sc), .num (.slice sa sk sc) (mo * ra) 11] w' → Held w [.cell (BZ) 0 (.slice sa sk sc), .num (.slice sa sk sc) (mo * ra) 11] w') := Lib.hid (fun _ h => h.2)
   have KN : Hid (∀ w' : World, w'.cell? ⟨BZ, 0, none⟩ = some (.slice sa sk sc) ∧ Held w [.cell (BZ) 0 (.slice sa sk sc), .num (.slice sa sk sc) (mo * ra) 11] w' → BigN w' (.slice sa sk sc) (mo * ra) 11) := Lib.hid (fun _ h => h.2.big (.slice sa sk sc) (mo * ra) 11)
   have HSS := Lib.hid (KS.out _ H.drew)
   go_region_held3 (fun w' => w'.cell? ⟨BZ, 0, none⟩ = some (.slice sa sk sc) ∧ Held w [.cell (BZ) 0 (.slice sa sk sc), .num (.slice sa sk sc) (mo * ra) 11] w')
    (first | exact HSS.out | (refine KS.out _ (Held.below (KH.out _ ?_) hb); assumption))
    (first
     | (go_at_call 33; (with_reducible refine (zB8 9000000000000000000 _ (by omega) (by omega)).mono ?_); rintro e w' ⟨xa, xk, xc, rfl, NX, -, hb⟩)
     | (go_at_call 34; (with_reducible refine (zHm (.slice sa sk sc) (.slice xa xk xc) (mo * ra) 9000000000000000000 11 5 _ (KN.out _ (by assumption)) NX (by omega) (by omega)).mono ?_); rw [HR.out]; rintro e w' ⟨rfl, hb⟩))
   have K9 := Lib.hid (KH.out _ (by assumption)).old
   go_wp2
   go_ret
   exact ⟨rfl, K9.out⟩
 ·
  have HS : w.heap.size ≤ WD.heap.size := H.size
  have HT := H.lt (w.heap.size) 0 (.int .i64 mo)
  have H0 := H
  replace H := H.lone (WD.heap.size) (.slice none 0 0) 68 rfl
  go_simp
  refine hK.out _ _ ?_ (fun hNew => ?_)
  ·exact ⟨H.cell (w.heap.size) 0 (.int .i64 mo), H.cell (w.heap.size) 1 (.int .i64 ra)⟩
  clear hK K hHeld
  have hHeld := hNew
  clear hNew
  try simp only [Act.put, List.setIfInBounds_toArray, List.set_cons_zero, List.set_cons_succ]
  refine wpAnyH_ready (rs := [2]) (by kernel_rfl) (by simp) ?_
  refine AllReadyH.cons (o := ⟨some 77, _, _, _, _, _⟩) rfl (fun K hK => ?_) AllReadyH.nil
  go_simp
  (with_reducible refine (zB8 mo _ (by omega) (by omega)).mono ?_)
  rintro e v7 ⟨pa, pk, pc, rfl, NN, FN, hb⟩
  replace H := (H.below hb).num NN
  clear NN FN hb
  go_wp2_with fail
  refine hK.out _ _ ?_ (fun hNew => ?_)
  ·exact ⟨H.cell (w.heap.size) 0 (.int .i64 mo), H.cell (w.heap.size) 1 (.int .i64 ra)⟩
  clear hK K hHeld
  have hHeld := hNew
  clear hNew
  try simp only [Act.put, List.setIfInBounds_toArray, List.set_cons_zero, List.set_cons_succ]
  refine wpAnyH_ready (rs := [5]) (by kernel_rfl) (by simp) ?_
  refine AllReadyH.cons (o := ⟨some 80, _, _, _, _, _⟩) rfl (fun K hK => ?_) AllReadyH.nil
  go_simp
  (with_reducible refine (zB8 ra _ (by omega) (by omega)).mono ?_)
  rintro e v8 ⟨qa, qk, qc, rfl, NN, FN, hb⟩
  replace H := (H.below hb).num NN
  clear NN FN hb
  go_wp2_with fail
  refine hK.out _ _ ?_ (fun hNew => ?_)
  ·exact ⟨H.cell (w.heap.size) 0 (.int .i64 mo), H.cell (w.heap.size) 1 (.int .i64 ra)⟩
  clear hK K hHeld
  have hHeld := hNew
  clear hNew
  try simp only [Act.put, List.setIfInBounds_toArray, List.set_cons_zero, List.set_cons_succ]
  refine wpAnyH_ready (rs := [6]) (by kernel_rfl) (by simp) ?_
  refine AllReadyH.cons (o := ⟨some 81, _, _, _, _, _⟩) rfl (fun K hK => ?_) AllReadyH.nil
  have LZ := H.lt (WD.heap.size) 0 (.slice none 0 0)
  go_simp
  (with_reducible refine (zEk (.slice pa pk pc) (.slice qa qk qc) mo ra 5 5 _ (H.big (.slice pa pk pc) mo 5) (H.big (.slice qa qk qc) ra 5) (by omega) (by omega)).mono ?_)
  rintro e v9 ⟨sa, sk, sc, rfl, NN, FN, hb⟩
  have FD : Hid (∀ g, (Value.slice sa sk sc).ownBlock = some g → g ≠ WD.heap.size) := Lib.hid (fun g hg => Nat.ne_of_gt (Nat.lt_of_lt_of_le LZ (FN g hg)))
  clear LZ
  replace H := (H.below hb).num NN
  clear NN FN hb
  go_wp2_with fail
  refine hK.out _ _ ?_ (fun hNew => ?_)
  ·exact ⟨H.cell (w.heap.size) 0 (.int .i64 mo), H.cell (w.heap.size) 1 (.int .i64 ra)⟩
  clear hK K hHeld
  have hHeld := hNew
  clear hNew
  try simp only [Act.put, List.setIfInBounds_toArray, List.set_cons_zero, List.set_cons_succ]
  refine wpAnyH_ready (rs := [8]) (by kernel_rfl) (by simp) ?_
  refine AllReadyH.cons (o := ⟨none, _, _, _, _, _⟩) rfl (fun K hK => ?_) AllReadyH.nil
  have HF := zD1 (gs := [.cell (w.heap.size) 0 (.int .i64 mo), .cell (w.heap.size) 1 (.int .i64 ra)]) (a := WD.heap.size) H (by intro f hf; simp only [List.mem_cons, List.not_mem_nil, or_false] at hf; rcases hf with rfl | rfl <;> exact (by repeat (first | with_reducible exact List.mem_cons_self | with_reducible apply List.mem_cons_of_mem))) HS (by intro f hf; simp only [List.mem_cons, List.not_mem_nil, or_false] at hf; rcases hf with rfl | rfl <;> exact Nat.ne_of_lt HT) (H.cell (WD.heap.size) 0 (.slice none 0 0)) (H.big (.slice sa sk sc) (mo * ra) 11) FD.out
  have cz0 := H.cell (WD.heap.size) 0 (.slice none 0 0)
  have fz0 := H.frozen (WD.heap.size) 0
  go_simp
  clear cz0 fz0
  refine hK.out _ _ ?_ (fun hNew => ?_)
  ·exact ⟨HF.cell (w.heap.size) 0 (.int .i64 mo), HF.cell (w.heap.size) 1 (.int .i64 ra)⟩
  clear hK K hHeld
  have hHeld := hNew
  clear hNew
  try simp only [Act.put, List.setIfInBounds_toArray, List.set_cons_zero, List.set_cons_succ]
  clear H H0 HS HT
  have H := HF
  clear HF
  refine wpAnyH_done (by kernel_rfl) ?_ _
  clear hHeld
  replace H : Held w [.cell (WD.heap.size) 0 (.slice sa sk sc), .num (.slice sa sk sc) (mo * ra) 11] _ := H.sub (by intro f hf; simp only [List.mem_cons, List.not_mem_nil, or_false] at hf; rcases hf with rfl | rfl <;> exact (by repeat (first | with_reducible exact List.mem_cons_self | with_reducible apply List.mem_cons_of_mem)))
  obtain ⟨BZ, hBZ⟩ : ∃ BZ, WD.heap.size = BZ := ⟨_, rfl⟩
  rw [hBZ] at H ⊢
  have cz := H.cell BZ 0 (.slice sa sk sc)
  have lz := zA0 cz
  go_wp2_with fail
  clear cz lz
  have KS : Hid (∀ w' : World, Held w [.cell (BZ) 0 (.slice sa sk sc), .num (.slice sa sk sc) (mo * ra) 11] w' → w'.cell? ⟨BZ, 0, none⟩ = some (.slice sa sk sc) ∧ Held w [.cell (BZ) 0 (.slice sa sk sc), .num (.slice sa sk sc) (mo * ra) 11] w') := Lib.hid (fun _ h => ⟨h.cell BZ 0 (.slice sa sk sc), h⟩)
  have KH : Hid (∀ w' : World, w'.cell? ⟨BZ, 0, none⟩ = some (.slice sa sk sc) ∧ Held w [.cell (BZ) 0 (.slice sa sk sc), .num (.slice sa sk sc) (mo * ra) 11] w' → Held w [.cell (BZ) 0 (.slice sa sk sc), .num (.slice sa sk sc) (mo * ra) 11] w') := Lib.hid (fun _ h => h.2)
  have KN : Hid (∀ w' : World, w'.cell? ⟨BZ, 0, none⟩ = some (.slice sa sk sc) ∧ Held w [.cell (BZ) 0 (.slice sa sk sc), .num (.slice sa sk sc) (mo * ra) 11] w' → BigN w' (.slice sa sk sc) (mo * ra) 11) := Lib.hid (fun _ h => h.2.big (.slice sa sk sc) (mo * ra) 11)
  have HSS := Lib.hid (KS.out _ H.drew)
  go_region_held3 (fun w' => w'.cell? ⟨BZ, 0, none⟩ = some (.slice sa sk sc) ∧ Held w [.cell (BZ) 0 (.slice sa sk sc), .num (.slice sa sk sc) (mo * ra) 11] w')
   (first | exact HSS.out | (refine KS.out _ (Held.below (KH.out _ ?_) hb); assumption))
   (first
    | (go_at_call 33; (with_reducible refine (zB8 9000000000000000000 _ (by omega) (by omega)).mono ?_); rintro e w' ⟨xa, xk, xc, rfl, NX, -, hb⟩)
    | (go_at_call 34; (with_reducible refine (zHm (.slice sa sk sc) (.slice xa xk xc) (mo * ra) 9000000000000000000 11 5 _ (KN.out _ (by assumption)) NX (by omega) (by omega)).mono ?_); rw [HR.out]; rintro e w' ⟨rfl, hb⟩))
  have K9 := Lib.hid (KH.out _ (by assumption)).old
  go_wp2
  go_ret
  exact ⟨rfl, K9.out⟩
theorem zBw (mo ra ki co st en ms : Int) (bk lg eo : Bool) (ro : Int) (c : Int) (w : World) (h : (Tm.mk mo ra ki co st en ms bk lg eo ro).code = c) : Calls Tryz.prog 14 #[.agg #[.int .i64 mo, .int .i64 ra, .int .i64 ki, .int .i64 co, .int .i64 st, .int .i64 en, .int .i64 ms, .bool bk, .bool lg, .bool eo, .int .i64 ro]] w fun e w' => e = .returned (.int .i64 c) ∧ Below w.heap.size w w' := by
 subst h
 by_cases e1 : ki < 0
 ·rw [Tm.bad (by unfold Tm.Form; dsimp only; omega)]
  exact zQa mo ra ki co st en ms bk lg eo ro (decide_eq_true e1) w
 by_cases e2 : ki > 2
 ·rw [Tm.bad (by unfold Tm.Form; dsimp only; omega)]
  exact zQb mo ra ki co st en ms bk lg eo ro (decide_eq_false e1) (decide_eq_true e2) w
 by_cases e3 : co < 0
 ·rw [Tm.bad (by unfold Tm.Form; dsimp only; omega)]
  exact zQ8 mo ra ki co st en ms bk lg eo ro (decide_eq_false e1) (decide_eq_false e2) (decide_eq_true e3) w
 by_cases e4 : co > 6
 ·rw [Tm.bad (by unfold Tm.Form; dsimp only; omega)]
  exact zQ9 mo ra ki co st en ms bk lg eo ro (decide_eq_false e1) (decide_eq_false e2) (decide_eq_false e3) (decide_eq_true e4) w
 by_cases e5 : ro < 0
 ·rw [Tm.bad (by unfold Tm.Form; dsimp only; omega)]
  exact zQe mo ra ki co st en ms bk lg eo ro (decide_eq_false e1) (decide_eq_false e2) (decide_eq_false e3) (decide_eq_false e4) (decide_eq_true e5) w
 by_cases e6 : ro > 4
 ·rw [Tm.bad (by unfold Tm.Form; dsimp only; omega)]
  exact zQf mo ra ki co st en ms bk lg eo ro (decide_eq_false e1) (decide_eq_false e2) (decide_eq_false e3) (decide_eq_false e4) (decide_eq_false e5) (decide_eq_true e6) w
 by_cases e7 : Mo ms
 rotate_left
 ·rw [Tm.bad (fun g => e7 g.2.2.2)]
  exact zH2 mo ra ki co st en ms bk lg eo ro (decide_eq_false e1) (decide_eq_false e2) (decide_eq_false e3) (decide_eq_false e4) (decide_eq_false e5) (decide_eq_false e6) _ rfl (by rw [zGn]; exact decide_eq_true e7) w
 have e8 : (fr ms == 0) = false := by rw [zGn]; exact decide_eq_false (fun g => g e7)
 have hF : (Tm.mk mo ra ki co st en ms bk lg eo ro).Form := ⟨⟨Int.not_lt.1 e1, Int.not_lt.1 e2⟩, ⟨Int.not_lt.1 e3, Int.not_lt.1 e4⟩, ⟨Int.not_lt.1 e5, Int.not_lt.1 e6⟩, e7⟩
 by_cases e9 : 1 ≤ st ∧ st ≤ 3652059
 rotate_left
 ·rw [Tm.noDay hF (fun g => e9 g.1)]
  exact zK5 mo ra ki co st en ms bk lg eo ro (decide_eq_false e1) (decide_eq_false e2) (decide_eq_false e3) (decide_eq_false e4) (decide_eq_false e5) (decide_eq_false e6) _ rfl e8 (decide_eq_false e9) _ rfl w
 by_cases e10 : 1 ≤ en ∧ en ≤ 3652059
 rotate_left
 ·rw [Tm.noDay hF (fun g => e10 g.2)]
  exact zK6 mo ra ki co st en ms bk lg eo ro (decide_eq_false e1) (decide_eq_false e2) (decide_eq_false e3) (decide_eq_false e4) (decide_eq_false e5) (decide_eq_false e6) _ rfl e8 (decide_eq_true e9) (decide_eq_false e10) w
 have hD : (Tm.mk mo ra ki co st en ms bk lg eo ro).Days := ⟨e9, e10⟩
 by_cases e11 : st < en
 rotate_left
 ·rw [Tm.turned hF hD e11]
  exact zH3 mo ra ki co st en ms bk lg eo ro (decide_eq_false e1) (decide_eq_false e2) (decide_eq_false e3) (decide_eq_false e4) (decide_eq_false e5) (decide_eq_false e6) _ rfl e8 (decide_eq_true e9) (decide_eq_true e10) (decide_eq_true (by omega)) w
 by_cases e12 : mo < 1
 ·rw [Tm.over hF hD e11 (by unfold Tm.Own; dsimp only; omega)]
  exact zQc mo ra ki co st en ms bk lg eo ro (decide_eq_false e1) (decide_eq_false e2) (decide_eq_false e3) (decide_eq_false e4) (decide_eq_false e5) (decide_eq_false e6) _ rfl e8 (decide_eq_true e9) (decide_eq_true e10) (decide_eq_false (by omega)) (decide_eq_true e12) w
 by_cases e13 : mo > 1000000000000000
 ·rw [Tm.over hF hD e11 (by unfold Tm.Own; dsimp only; omega)]
  exact zQd mo ra ki co st en ms bk lg eo ro (decide_eq_false e1) (decide_eq_false e2) (decide_eq_false e3) (decide_eq_false e4) (decide_eq_false e5) (decide_eq_false e6) _ rfl e8 (decide_eq_true e9) (decide_eq_true e10) (decide_eq_false (by omega)) (decide_eq_false e12) (decide_eq_true e13) w
 by_cases e14 : ra < 0
 ·rw [Tm.over hF hD e11 (by unfold Tm.Own; dsimp only; omega)]
  exact zQ6 mo ra ki co st en ms bk lg eo ro (decide_eq_false e1) (decide_eq_false e2) (decide_eq_false e3) (decide_eq_false e4) (decide_eq_false e5) (decide_eq_false e6) _ rfl e8 (decide_eq_true e9) (decide_eq_true e10) (decide_eq_false (by omega)) (decide_eq_false e12) (decide_eq_false e13) (decide_eq_true e14) w
 by_cases e15 : ra > 1000000
 ·rw [Tm.over hF hD e11 (by unfold Tm.Own; dsimp only; omega)]
  exact zQ7 mo ra ki co st en ms bk lg eo ro (decide_eq_false e1) (decide_eq_false e2) (decide_eq_false e3) (decide_eq_false e4) (decide_eq_false e5) (decide_eq_false e6) _ rfl e8 (decide_eq_true e9) (decide_eq_true e10) (decide_eq_false (by omega)) (decide_eq_false e12) (decide_eq_false e13) (decide_eq_false e14) (decide_eq_true e15) w
 have hm : 1 ≤ mo ∧ mo ≤ 1000000000000000 := by omega
 have hr : 0 ≤ ra ∧ ra ≤ 1000000 := by omega
 have hO : (Tm.mk mo ra ki co st en ms bk lg eo ro).Own := ⟨hm, hr⟩
 by_cases h12 : 9000000000000000000 < mo * ra
 ·rw [Tm.both hF hD e11 hO h12]
  exact zK4 mo ra ki co st en ms bk lg eo ro (decide_eq_false e1) (decide_eq_false e2) (decide_eq_false e3) (decide_eq_false e4) (decide_eq_false e5) (decide_eq_false e6) _ rfl e8 (decide_eq_true e9) (decide_eq_true e10) (decide_eq_false (by omega)) (decide_eq_false e12) (decide_eq_false e13) (decide_eq_false e14) (decide_eq_false e15) hm hr _ rfl (by unfold cmpI; rw [if_neg (Int.not_lt.2 (Int.le_of_lt h12)), if_pos h12]; decide) w
 ·rw [Tm.may hF hD e11 hO (Int.not_lt.1 h12)]
  exact zMx mo ra ki co st en ms bk lg eo ro (decide_eq_false e1) (decide_eq_false e2) (decide_eq_false e3) (decide_eq_false e4) (decide_eq_false e5) (decide_eq_false e6) _ rfl e8 (decide_eq_true e9) (decide_eq_true e10) (decide_eq_false (by omega)) (decide_eq_false e12) (decide_eq_false e13) (decide_eq_false e14) (decide_eq_false e15) hm hr _ rfl (by unfold cmpI; rw [if_neg h12]; split <;> decide) w
end Go.Proofs.YtpfgdfpaoldhcaaGreatDoor
