/- ThirtyGrows: the walk. -/
import Derived.Test.YtkmjaoiehmddcaaDoorTyPart
namespace Go.Proofs.YtkmjaoiehmddcaaDoor
open Go.RowKit
set_option linter.unusedVariables false
set_option linter.unusedSimpArgs false

theorem refcmp_is (an ad bn bd c : Int) (w : World) (ha : rightB an ad = true) (hb : rightB bn bd = true) (h : cmpI (an * bd) (bn * ad) = c) :
    Calls Tryd.prog 21 #[.agg #[.int .i64 an, .int .i64 ad], .agg #[.int .i64 bn, .int .i64 bd]] w fun e w' => e = .returned (.int .i64 c) ∧ Below w.heap.size w w' := by
  subst h; exact refcmp_any an ad bn bd w ha hb
theorem part_cmp (x y : Int) (x0 : 0 ≤ x) (y1 : y ≤ 3700000) (h : x ≤ y) : cmpI (rN x 360 * rD y 360) (rN y 360 * rD x 360) ≤ 0 := by
  have a := r_yes (fit_small x x0 (by omega))
  have b := r_yes (fit_small y (by omega) y1)
  rw [a.1, a.2.1, b.1, b.2.1]
  have c1 := m_cross x 360
  have c2 := m_cross y 360
  have p1 := mD_pos x 360 (by decide)
  have p2 := mD_pos y 360 (by decide)
  have pp : 0 ≤ mD x 360 * mD y 360 := Int.le_of_lt (Int.mul_pos p1 p2)
  have e1 : 360 * (mN x 360 * mD y 360) = x * (mD x 360 * mD y 360) := by grind
  have e2 : 360 * (mN y 360 * mD x 360) = y * (mD x 360 * mD y 360) := by grind
  have e3 : x * (mD x 360 * mD y 360) ≤ y * (mD x 360 * mD y 360) := Int.mul_le_mul_of_nonneg_right h pp
  unfold cmpI
  split
  · decide
  · split <;> omega
theorem part_div (x : Int) (x0 : 0 ≤ x) (x1 : x ≤ 3700000) : 360 % rD x 360 = 0 ∧ 1 ≤ rD x 360 ∧ rD x 360 ≤ 360 := by
  have a := r_yes (fit_small x x0 x1)
  rw [a.2.1]
  have h := mD_mul x 360
  have p := mD_pos x 360 (by decide)
  have l := (m_le x 360 x0 (by decide)).2
  refine ⟨Int.emod_eq_zero_of_dvd ⟨gi x 360, by rw [Int.mul_comm]; exact h.symm⟩, by omega, l⟩
theorem px_mono (y1 m1 e y2 m2 f2 y3 m3 f3 : Int) (h : 12 * y2 + m2 < 12 * y3 + m3 ∨ (y2 = y3 ∧ m2 = m3 ∧ f2 ≤ f3)) (a : 1 ≤ f2 ∧ f2 ≤ 31) (b : 1 ≤ f3 ∧ f3 ≤ 31) : px y1 m1 e y2 m2 f2 ≤ px y1 m1 e y3 m3 f3 := by
  unfold px
  split <;> split <;> omega
theorem us_bd (t f g : Bool) (A d : Int) (h : 1 ≤ d ∧ d ≤ 31) : 1 ≤ usC A (usB t f g d) ∧ usC A (usB t f g d) ≤ 31 := by
  unfold usC usB
  split <;> split <;> omega
theorem us_le (t f : Bool) (A y m d e : Int) (he : may y m e) (h : d ≤ e) : usC A (usB t f (febB y m d) d) ≤ usC A (usB t f (febB y m e) e) := by
  obtain ⟨-, -, -, -, h5, h6⟩ := he
  have l := ln_le y m
  have hb : ∀ x, febB y m x = true ↔ (m = 2 ∧ x = ln y m) := fun x => by unfold febB; simp
  have l2 : m = 2 → ln y m ≤ 29 := fun hm => by subst hm; unfold ln; cases lp y <;> simp <;> decide
  cases h1 : febB y m d
  · cases h2 : febB y m e
    · unfold usB usC
      simp only [Bool.false_eq_true, and_false, if_false]
      split <;> split <;> omega
    · have k := (hb e).1 h2
      have k2 := l2 k.1
      unfold usB
      simp only [Bool.false_eq_true, and_false, if_false, and_true]
      unfold usC
      split <;> split <;> (try split) <;> omega
  · have k := (hb d).1 h1
    have : d = e := by omega
    subst this
    rw [h1]; exact Int.le_refl _

set_option maxHeartbeats 4000000 in
set_option maxRecDepth 100000 in
theorem tgrows_a (K : Ways) (a b o : Int) (t : Bool) (w : World) (hL : Lens w) (h : a < 1 ∨ 3652059 < a) :
    Calls Tryd.prog 5 #[.agg #[.int .i64 a, .int .i64 b, .int .u8 o, .bool t]] w fun e w' => e = .returned (.bool true) ∧ Below w.heap.size w w' := by
  have H := (Held.start w).add (f := lensF) hL
  clear hL
  have D1 : Hid (decide (1 ≤ a ∧ a ≤ 3652059) = false) := Lib.hid (by rw [decide_eq_false_iff_not]; omega)
  clear h
  go_enter Tryd.func5, Tryd.ntmps5
  go_wp2_with fail
  replace H := (H.alloc (.cells #[.int .i64 a, .int .i64 b, .int .u8 o, .bool t] 48))
  (with_reducible refine (tshown_any K _ (H.lens (List.Mem.head _))).mono ?_)
  rintro e w1 ⟨rfl, hb⟩
  replace H := H.below hb
  clear hb
  go_wp2_with fail
  (with_reducible refine (rday_is a false _ D1.out).mono ?_)
  rintro e w2 ⟨rfl, hb⟩
  replace H := H.below hb
  clear hb
  go_wp2_with fail
  go_ret
  exact ⟨rfl, H.old⟩

set_option maxHeartbeats 4000000 in
set_option maxRecDepth 100000 in
theorem tgrows_b (K : Ways) (a b o : Int) (t : Bool) (w : World) (hL : Lens w) (h1 : 1 ≤ a ∧ a ≤ 3652059) (h : b < 1 ∨ 3652059 < b) :
    Calls Tryd.prog 5 #[.agg #[.int .i64 a, .int .i64 b, .int .u8 o, .bool t]] w fun e w' => e = .returned (.bool true) ∧ Below w.heap.size w w' := by
  have H := (Held.start w).add (f := lensF) hL
  clear hL
  have D1 : Hid (decide (1 ≤ a ∧ a ≤ 3652059) = true) := Lib.hid (by rw [decide_eq_true_eq]; exact h1)
  have D2 : Hid (decide (1 ≤ b ∧ b ≤ 3652059) = false) := Lib.hid (by rw [decide_eq_false_iff_not]; omega)
  clear h h1
  go_enter Tryd.func5, Tryd.ntmps5
  go_wp2_with fail
  replace H := (H.alloc (.cells #[.int .i64 a, .int .i64 b, .int .u8 o, .bool t] 48))
  (with_reducible refine (tshown_any K _ (H.lens (List.Mem.head _))).mono ?_)
  rintro e w1 ⟨rfl, hb⟩
  replace H := H.below hb
  clear hb
  go_wp2_with fail
  (with_reducible refine (rday_is a true _ D1.out).mono ?_)
  rintro e w2 ⟨rfl, hb⟩
  replace H := H.below hb
  clear hb
  go_wp2_with fail
  (with_reducible refine (rday_is b false _ D2.out).mono ?_)
  rintro e w3 ⟨rfl, hb⟩
  replace H := H.below hb
  clear hb
  go_wp2_with fail
  go_ret
  exact ⟨rfl, H.old⟩

set_option maxHeartbeats 4000000 in
set_option maxRecDepth 100000 in
theorem tgrows_gt (K : Ways) (a b o : Int) (t : Bool) (w : World) (hL : Lens w) (h1 : 1 ≤ a ∧ a ≤ 3652059) (h2 : 1 ≤ b ∧ b ≤ 3652059) (ho : 0 ≤ o ∧ o < 256) (h : a > b) :
    Calls Tryd.prog 5 #[.agg #[.int .i64 a, .int .i64 b, .int .u8 o, .bool t]] w fun e w' => e = .returned (.bool true) ∧ Below w.heap.size w w' := by
  have H := (Held.start w).add (f := lensF) hL
  clear hL
  have D1 : Hid (decide (1 ≤ a ∧ a ≤ 3652059) = true) := Lib.hid (by rw [decide_eq_true_eq]; exact h1)
  have D2 : Hid (decide (1 ≤ b ∧ b ≤ 3652059) = true) := Lib.hid (by rw [decide_eq_true_eq]; exact h2)
  clear h1
  go_enter Tryd.func5, Tryd.ntmps5
  go_wp2_with fail
  replace H := (H.alloc (.cells #[.int .i64 a, .int .i64 b, .int .u8 o, .bool t] 48))
  (with_reducible refine (tshown_any K _ (H.lens (List.Mem.head _))).mono ?_)
  rintro e w1 ⟨rfl, hb⟩
  replace H := H.below hb
  clear hb
  go_wp2_with fail
  (with_reducible refine (rday_is a true _ D1.out).mono ?_)
  rintro e w2 ⟨rfl, hb⟩
  replace H := H.below hb
  clear hb
  go_wp2_with fail
  (with_reducible refine (rday_is b true _ D2.out).mono ?_)
  rintro e w3 ⟨rfl, hb⟩
  replace H := H.below hb
  clear hb
  go_wp2_with fail
  go_ret
  exact ⟨rfl, H.old⟩

set_option maxHeartbeats 4000000 in
set_option maxRecDepth 100000 in
theorem tgrows_far (K : Ways) (a b o : Int) (t : Bool) (w : World) (hL : Lens w) (h1 : 1 ≤ a ∧ a ≤ 3652059) (h2 : 1 ≤ b ∧ b ≤ 3652059) (ho : 0 ≤ o ∧ o < 256) (g : ¬ a > b) (h : b + o > 3652059) :
    Calls Tryd.prog 5 #[.agg #[.int .i64 a, .int .i64 b, .int .u8 o, .bool t]] w fun e w' => e = .returned (.bool true) ∧ Below w.heap.size w w' := by
  have H := (Held.start w).add (f := lensF) hL
  clear hL
  have D1 : Hid (decide (1 ≤ a ∧ a ≤ 3652059) = true) := Lib.hid (by rw [decide_eq_true_eq]; exact h1)
  have D2 : Hid (decide (1 ≤ b ∧ b ≤ 3652059) = true) := Lib.hid (by rw [decide_eq_true_eq]; exact h2)
  clear h1
  go_enter Tryd.func5, Tryd.ntmps5
  go_wp2_with fail
  replace H := (H.alloc (.cells #[.int .i64 a, .int .i64 b, .int .u8 o, .bool t] 48))
  (with_reducible refine (tshown_any K _ (H.lens (List.Mem.head _))).mono ?_)
  rintro e w1 ⟨rfl, hb⟩
  replace H := H.below hb
  clear hb
  go_wp2_with fail
  (with_reducible refine (rday_is a true _ D1.out).mono ?_)
  rintro e w2 ⟨rfl, hb⟩
  replace H := H.below hb
  clear hb
  go_wp2_with fail
  (with_reducible refine (rday_is b true _ D2.out).mono ?_)
  rintro e w3 ⟨rfl, hb⟩
  replace H := H.below hb
  clear hb
  go_wp2_with fail
  go_ret
  exact ⟨rfl, H.old⟩

set_option maxHeartbeats 4000000 in
set_option maxRecDepth 100000 in
theorem tgrows_in (K : Ways) (a b o p0 q0 p1 q1 p2 q2 p3 q3 p4 q4 p5 q5 c1 c2 c3 : Int) (t : Bool) (w : World) (hL : Lens w) (h1 : 1 ≤ a ∧ a ≤ 3652059) (h2 : 1 ≤ b ∧ b ≤ 3652059) (ho : 0 ≤ o ∧ o < 256) (g : ¬ a > b) (h : ¬ b + o > 3652059)  (w0 : PartIs (uX t) a b p0 q0 0) (r0 : rightB p0 q0 = true) (z0 : 360 % q0 = 0 ∧ 1 ≤ q0 ∧ q0 ≤ 360) (w1 : PartIs (uX t) a (b + o) p1 q1 0) (r1 : rightB p1 q1 = true) (z1 : 360 % q1 = 0 ∧ 1 ≤ q1 ∧ q1 ≤ 360) (w2 : PartIs eX a b p2 q2 0) (r2 : rightB p2 q2 = true) (z2 : 360 % q2 = 0 ∧ 1 ≤ q2 ∧ q2 ≤ 360) (w3 : PartIs eX a (b + o) p3 q3 0) (r3 : rightB p3 q3 = true) (z3 : 360 % q3 = 0 ∧ 1 ≤ q3 ∧ q3 ≤ 360) (w4 : PartIs (iX (decide (b = 0))) a b p4 q4 0) (r4 : rightB p4 q4 = true) (z4 : 360 % q4 = 0 ∧ 1 ≤ q4 ∧ q4 ≤ 360) (w5 : PartIs (iX (decide (b + o = 0))) a (b + o) p5 q5 0) (r5 : rightB p5 q5 = true) (z5 : 360 % q5 = 0 ∧ 1 ≤ q5 ∧ q5 ≤ 360) (k1 : cmpI (p2 * q3) (p3 * q2) = c1) (k2 : cmpI (p4 * q5) (p5 * q4) = c2) (k3 : cmpI (p0 * q1) (p1 * q0) = c3) (l1 : c1 ≤ 0) (l2 : c2 ≤ 0) (l3 : c3 ≤ 0) :
    Calls Tryd.prog 5 #[.agg #[.int .i64 a, .int .i64 b, .int .u8 o, .bool t]] w fun e w' => e = .returned (.bool true) ∧ Below w.heap.size w w' := by
  have H := (Held.start w).add (f := lensF) hL
  clear hL
  have D1 : Hid (decide (1 ≤ a ∧ a ≤ 3652059) = true) := Lib.hid (by rw [decide_eq_true_eq]; exact h1)
  have D2 : Hid (decide (1 ≤ b ∧ b ≤ 3652059) = true) := Lib.hid (by rw [decide_eq_true_eq]; exact h2)
  clear h1
  have W0 := Lib.hid w0
  have R0 := Lib.hid r0
  have y0 := z0.2
  have x0 : (360 % q0 != 0) = false := by simpa using z0.1
  clear w0 r0 z0
  have W1 := Lib.hid w1
  have R1 := Lib.hid r1
  have y1 := z1.2
  have x1 : (360 % q1 != 0) = false := by simpa using z1.1
  clear w1 r1 z1
  have W2 := Lib.hid w2
  have R2 := Lib.hid r2
  have y2 := z2.2
  have x2 : (360 % q2 != 0) = false := by simpa using z2.1
  clear w2 r2 z2
  have W3 := Lib.hid w3
  have R3 := Lib.hid r3
  have y3 := z3.2
  have x3 : (360 % q3 != 0) = false := by simpa using z3.1
  clear w3 r3 z3
  have W4 := Lib.hid w4
  have R4 := Lib.hid r4
  have y4 := z4.2
  have x4 : (360 % q4 != 0) = false := by simpa using z4.1
  clear w4 r4 z4
  have W5 := Lib.hid w5
  have R5 := Lib.hid r5
  have y5 := z5.2
  have x5 : (360 % q5 != 0) = false := by simpa using z5.1
  clear w5 r5 z5
  have hsz : ∀ v : World, (sizeOf 26).run Tryd.prog v = .ok 2 v := fun _ => by kernel_rfl
  have K1 := Lib.hid k1
  have K2 := Lib.hid k2
  have K3 := Lib.hid k3
  clear k1 k2 k3
  go_enter Tryd.func5, Tryd.ntmps5
  go_wp2_with fail
  replace H := (H.alloc (.cells #[.int .i64 a, .int .i64 b, .int .u8 o, .bool t] 48))
  (with_reducible refine (tshown_any K _ (H.lens (List.Mem.head _))).mono ?_)
  rintro e w1 ⟨rfl, hb⟩
  replace H := H.below hb
  clear hb
  go_wp2_with fail
  (with_reducible refine (rday_is a true _ D1.out).mono ?_)
  rintro e w2 ⟨rfl, hb⟩
  replace H := H.below hb
  clear hb
  go_wp2_with fail
  (with_reducible refine (rday_is b true _ D2.out).mono ?_)
  rintro e w3 ⟨rfl, hb⟩
  replace H := H.below hb
  clear hb
  go_wp2_with fail
  (with_reducible refine (K.us a b p0 q0 0 t _ (H.lens (List.Mem.head _)) W0.out).mono ?_)
  rintro e w4 ⟨rfl, hb⟩
  replace H := H.below hb
  clear hb
  go_wp2_with fail
  replace H := (H.pair (w4.heap.size) (.int .i64 p0) (.int .i64 q0) 26 rfl)
  (with_reducible refine (K.us a (b + o) p1 q1 0 t _ (H.lens (List.Mem.tail _ (List.Mem.tail _ (List.Mem.tail _ (List.Mem.tail _ (List.Mem.head _)))))) W1.out).mono ?_)
  rintro e w5 ⟨rfl, hb⟩
  replace H := H.below hb
  clear hb
  have cv00 := H.cell (w4.heap.size) 0 (.int .i64 p0) (List.Mem.head _)
  have cv01 := H.cell (w4.heap.size) 1 (.int .i64 q0) (List.Mem.tail _ (List.Mem.head _))
  have lv0 := H.lt (w4.heap.size) 0 (.int .i64 p0) (List.Mem.head _)
  go_wp2_with fail
  clear cv00 cv01 lv0
  replace H := (H.pair (w5.heap.size) (.int .i64 p1) (.int .i64 q1) 26 rfl)
  (with_reducible refine (K.e a b p2 q2 0 _ (H.lens (List.Mem.tail _ (List.Mem.tail _ (List.Mem.tail _ (List.Mem.tail _ (List.Mem.tail _ (List.Mem.tail _ (List.Mem.tail _ (List.Mem.tail _ (List.Mem.head _)))))))))) W2.out).mono ?_)
  rintro e w6 ⟨rfl, hb⟩
  replace H := H.below hb
  clear hb
  have cv00 := H.cell (w4.heap.size) 0 (.int .i64 p0) (List.Mem.tail _ (List.Mem.tail _ (List.Mem.tail _ (List.Mem.tail _ (List.Mem.head _)))))
  have cv01 := H.cell (w4.heap.size) 1 (.int .i64 q0) (List.Mem.tail _ (List.Mem.tail _ (List.Mem.tail _ (List.Mem.tail _ (List.Mem.tail _ (List.Mem.head _))))))
  have lv0 := H.lt (w4.heap.size) 0 (.int .i64 p0) (List.Mem.tail _ (List.Mem.tail _ (List.Mem.tail _ (List.Mem.tail _ (List.Mem.head _)))))
  have cv10 := H.cell (w5.heap.size) 0 (.int .i64 p1) (List.Mem.head _)
  have cv11 := H.cell (w5.heap.size) 1 (.int .i64 q1) (List.Mem.tail _ (List.Mem.head _))
  have lv1 := H.lt (w5.heap.size) 0 (.int .i64 p1) (List.Mem.head _)
  go_wp2_with fail
  clear cv00 cv01 lv0 cv10 cv11 lv1
  replace H := (H.pair (w6.heap.size) (.int .i64 p2) (.int .i64 q2) 26 rfl)
  (with_reducible refine (K.e a (b + o) p3 q3 0 _ (H.lens (List.Mem.tail _ (List.Mem.tail _ (List.Mem.tail _ (List.Mem.tail _ (List.Mem.tail _ (List.Mem.tail _ (List.Mem.tail _ (List.Mem.tail _ (List.Mem.tail _ (List.Mem.tail _ (List.Mem.tail _ (List.Mem.tail _ (List.Mem.head _)))))))))))))) W3.out).mono ?_)
  rintro e w7 ⟨rfl, hb⟩
  replace H := H.below hb
  clear hb
  have cv00 := H.cell (w4.heap.size) 0 (.int .i64 p0) (List.Mem.tail _ (List.Mem.tail _ (List.Mem.tail _ (List.Mem.tail _ (List.Mem.tail _ (List.Mem.tail _ (List.Mem.tail _ (List.Mem.tail _ (List.Mem.head _)))))))))
  have cv01 := H.cell (w4.heap.size) 1 (.int .i64 q0) (List.Mem.tail _ (List.Mem.tail _ (List.Mem.tail _ (List.Mem.tail _ (List.Mem.tail _ (List.Mem.tail _ (List.Mem.tail _ (List.Mem.tail _ (List.Mem.tail _ (List.Mem.head _))))))))))
  have lv0 := H.lt (w4.heap.size) 0 (.int .i64 p0) (List.Mem.tail _ (List.Mem.tail _ (List.Mem.tail _ (List.Mem.tail _ (List.Mem.tail _ (List.Mem.tail _ (List.Mem.tail _ (List.Mem.tail _ (List.Mem.head _)))))))))
  have cv10 := H.cell (w5.heap.size) 0 (.int .i64 p1) (List.Mem.tail _ (List.Mem.tail _ (List.Mem.tail _ (List.Mem.tail _ (List.Mem.head _)))))
  have cv11 := H.cell (w5.heap.size) 1 (.int .i64 q1) (List.Mem.tail _ (List.Mem.tail _ (List.Mem.tail _ (List.Mem.tail _ (List.Mem.tail _ (List.Mem.head _))))))
  have lv1 := H.lt (w5.heap.size) 0 (.int .i64 p1) (List.Mem.tail _ (List.Mem.tail _ (List.Mem.tail _ (List.Mem.tail _ (List.Mem.head _)))))
  have cv20 := H.cell (w6.heap.size) 0 (.int .i64 p2) (List.Mem.head _)
  have cv21 := H.cell (w6.heap.size) 1 (.int .i64 q2) (List.Mem.tail _ (List.Mem.head _))
  have lv2 := H.lt (w6.heap.size) 0 (.int .i64 p2) (List.Mem.head _)
  go_wp2_with fail
  clear cv00 cv01 lv0 cv10 cv11 lv1 cv20 cv21 lv2
  replace H := (H.pair (w7.heap.size) (.int .i64 p3) (.int .i64 q3) 26 rfl)
  (with_reducible refine (K.isda a b 0 p4 q4 0 _ (H.lens (List.Mem.tail _ (List.Mem.tail _ (List.Mem.tail _ (List.Mem.tail _ (List.Mem.tail _ (List.Mem.tail _ (List.Mem.tail _ (List.Mem.tail _ (List.Mem.tail _ (List.Mem.tail _ (List.Mem.tail _ (List.Mem.tail _ (List.Mem.tail _ (List.Mem.tail _ (List.Mem.tail _ (List.Mem.tail _ (List.Mem.head _)))))))))))))))))) W4.out).mono ?_)
  rintro e w8 ⟨rfl, hb⟩
  replace H := H.below hb
  clear hb
  have cv00 := H.cell (w4.heap.size) 0 (.int .i64 p0) (List.Mem.tail _ (List.Mem.tail _ (List.Mem.tail _ (List.Mem.tail _ (List.Mem.tail _ (List.Mem.tail _ (List.Mem.tail _ (List.Mem.tail _ (List.Mem.tail _ (List.Mem.tail _ (List.Mem.tail _ (List.Mem.tail _ (List.Mem.head _)))))))))))))
  have cv01 := H.cell (w4.heap.size) 1 (.int .i64 q0) (List.Mem.tail _ (List.Mem.tail _ (List.Mem.tail _ (List.Mem.tail _ (List.Mem.tail _ (List.Mem.tail _ (List.Mem.tail _ (List.Mem.tail _ (List.Mem.tail _ (List.Mem.tail _ (List.Mem.tail _ (List.Mem.tail _ (List.Mem.tail _ (List.Mem.head _))))))))))))))
  have lv0 := H.lt (w4.heap.size) 0 (.int .i64 p0) (List.Mem.tail _ (List.Mem.tail _ (List.Mem.tail _ (List.Mem.tail _ (List.Mem.tail _ (List.Mem.tail _ (List.Mem.tail _ (List.Mem.tail _ (List.Mem.tail _ (List.Mem.tail _ (List.Mem.tail _ (List.Mem.tail _ (List.Mem.head _)))))))))))))
  have cv10 := H.cell (w5.heap.size) 0 (.int .i64 p1) (List.Mem.tail _ (List.Mem.tail _ (List.Mem.tail _ (List.Mem.tail _ (List.Mem.tail _ (List.Mem.tail _ (List.Mem.tail _ (List.Mem.tail _ (List.Mem.head _)))))))))
  have cv11 := H.cell (w5.heap.size) 1 (.int .i64 q1) (List.Mem.tail _ (List.Mem.tail _ (List.Mem.tail _ (List.Mem.tail _ (List.Mem.tail _ (List.Mem.tail _ (List.Mem.tail _ (List.Mem.tail _ (List.Mem.tail _ (List.Mem.head _))))))))))
  have lv1 := H.lt (w5.heap.size) 0 (.int .i64 p1) (List.Mem.tail _ (List.Mem.tail _ (List.Mem.tail _ (List.Mem.tail _ (List.Mem.tail _ (List.Mem.tail _ (List.Mem.tail _ (List.Mem.tail _ (List.Mem.head _)))))))))
  have cv20 := H.cell (w6.heap.size) 0 (.int .i64 p2) (List.Mem.tail _ (List.Mem.tail _ (List.Mem.tail _ (List.Mem.tail _ (List.Mem.head _)))))
  have cv21 := H.cell (w6.heap.size) 1 (.int .i64 q2) (List.Mem.tail _ (List.Mem.tail _ (List.Mem.tail _ (List.Mem.tail _ (List.Mem.tail _ (List.Mem.head _))))))
  have lv2 := H.lt (w6.heap.size) 0 (.int .i64 p2) (List.Mem.tail _ (List.Mem.tail _ (List.Mem.tail _ (List.Mem.tail _ (List.Mem.head _)))))
  have cv30 := H.cell (w7.heap.size) 0 (.int .i64 p3) (List.Mem.head _)
  have cv31 := H.cell (w7.heap.size) 1 (.int .i64 q3) (List.Mem.tail _ (List.Mem.head _))
  have lv3 := H.lt (w7.heap.size) 0 (.int .i64 p3) (List.Mem.head _)
  go_wp2_with fail
  clear cv00 cv01 lv0 cv10 cv11 lv1 cv20 cv21 lv2 cv30 cv31 lv3
  replace H := (H.pair (w8.heap.size) (.int .i64 p4) (.int .i64 q4) 26 rfl)
  (with_reducible refine (K.isda a (b + o) 0 p5 q5 0 _ (H.lens (List.Mem.tail _ (List.Mem.tail _ (List.Mem.tail _ (List.Mem.tail _ (List.Mem.tail _ (List.Mem.tail _ (List.Mem.tail _ (List.Mem.tail _ (List.Mem.tail _ (List.Mem.tail _ (List.Mem.tail _ (List.Mem.tail _ (List.Mem.tail _ (List.Mem.tail _ (List.Mem.tail _ (List.Mem.tail _ (List.Mem.tail _ (List.Mem.tail _ (List.Mem.tail _ (List.Mem.tail _ (List.Mem.head _)))))))))))))))))))))) W5.out).mono ?_)
  rintro e w9 ⟨rfl, hb⟩
  replace H := H.below hb
  clear hb
  replace H := (H.pair (w9.heap.size) (.int .i64 p5) (.int .i64 q5) 26 rfl)
  have cv00 := H.cell (w4.heap.size) 0 (.int .i64 p0) (List.Mem.tail _ (List.Mem.tail _ (List.Mem.tail _ (List.Mem.tail _ (List.Mem.tail _ (List.Mem.tail _ (List.Mem.tail _ (List.Mem.tail _ (List.Mem.tail _ (List.Mem.tail _ (List.Mem.tail _ (List.Mem.tail _ (List.Mem.tail _ (List.Mem.tail _ (List.Mem.tail _ (List.Mem.tail _ (List.Mem.tail _ (List.Mem.tail _ (List.Mem.tail _ (List.Mem.tail _ (List.Mem.head _)))))))))))))))))))))
  have cv01 := H.cell (w4.heap.size) 1 (.int .i64 q0) (List.Mem.tail _ (List.Mem.tail _ (List.Mem.tail _ (List.Mem.tail _ (List.Mem.tail _ (List.Mem.tail _ (List.Mem.tail _ (List.Mem.tail _ (List.Mem.tail _ (List.Mem.tail _ (List.Mem.tail _ (List.Mem.tail _ (List.Mem.tail _ (List.Mem.tail _ (List.Mem.tail _ (List.Mem.tail _ (List.Mem.tail _ (List.Mem.tail _ (List.Mem.tail _ (List.Mem.tail _ (List.Mem.tail _ (List.Mem.head _))))))))))))))))))))))
  have lv0 := H.lt (w4.heap.size) 0 (.int .i64 p0) (List.Mem.tail _ (List.Mem.tail _ (List.Mem.tail _ (List.Mem.tail _ (List.Mem.tail _ (List.Mem.tail _ (List.Mem.tail _ (List.Mem.tail _ (List.Mem.tail _ (List.Mem.tail _ (List.Mem.tail _ (List.Mem.tail _ (List.Mem.tail _ (List.Mem.tail _ (List.Mem.tail _ (List.Mem.tail _ (List.Mem.tail _ (List.Mem.tail _ (List.Mem.tail _ (List.Mem.tail _ (List.Mem.head _)))))))))))))))))))))
  have cv10 := H.cell (w5.heap.size) 0 (.int .i64 p1) (List.Mem.tail _ (List.Mem.tail _ (List.Mem.tail _ (List.Mem.tail _ (List.Mem.tail _ (List.Mem.tail _ (List.Mem.tail _ (List.Mem.tail _ (List.Mem.tail _ (List.Mem.tail _ (List.Mem.tail _ (List.Mem.tail _ (List.Mem.tail _ (List.Mem.tail _ (List.Mem.tail _ (List.Mem.tail _ (List.Mem.head _)))))))))))))))))
  have cv11 := H.cell (w5.heap.size) 1 (.int .i64 q1) (List.Mem.tail _ (List.Mem.tail _ (List.Mem.tail _ (List.Mem.tail _ (List.Mem.tail _ (List.Mem.tail _ (List.Mem.tail _ (List.Mem.tail _ (List.Mem.tail _ (List.Mem.tail _ (List.Mem.tail _ (List.Mem.tail _ (List.Mem.tail _ (List.Mem.tail _ (List.Mem.tail _ (List.Mem.tail _ (List.Mem.tail _ (List.Mem.head _))))))))))))))))))
  have lv1 := H.lt (w5.heap.size) 0 (.int .i64 p1) (List.Mem.tail _ (List.Mem.tail _ (List.Mem.tail _ (List.Mem.tail _ (List.Mem.tail _ (List.Mem.tail _ (List.Mem.tail _ (List.Mem.tail _ (List.Mem.tail _ (List.Mem.tail _ (List.Mem.tail _ (List.Mem.tail _ (List.Mem.tail _ (List.Mem.tail _ (List.Mem.tail _ (List.Mem.tail _ (List.Mem.head _)))))))))))))))))
  have cv20 := H.cell (w6.heap.size) 0 (.int .i64 p2) (List.Mem.tail _ (List.Mem.tail _ (List.Mem.tail _ (List.Mem.tail _ (List.Mem.tail _ (List.Mem.tail _ (List.Mem.tail _ (List.Mem.tail _ (List.Mem.tail _ (List.Mem.tail _ (List.Mem.tail _ (List.Mem.tail _ (List.Mem.head _)))))))))))))
  have cv21 := H.cell (w6.heap.size) 1 (.int .i64 q2) (List.Mem.tail _ (List.Mem.tail _ (List.Mem.tail _ (List.Mem.tail _ (List.Mem.tail _ (List.Mem.tail _ (List.Mem.tail _ (List.Mem.tail _ (List.Mem.tail _ (List.Mem.tail _ (List.Mem.tail _ (List.Mem.tail _ (List.Mem.tail _ (List.Mem.head _))))))))))))))
  have lv2 := H.lt (w6.heap.size) 0 (.int .i64 p2) (List.Mem.tail _ (List.Mem.tail _ (List.Mem.tail _ (List.Mem.tail _ (List.Mem.tail _ (List.Mem.tail _ (List.Mem.tail _ (List.Mem.tail _ (List.Mem.tail _ (List.Mem.tail _ (List.Mem.tail _ (List.Mem.tail _ (List.Mem.head _)))))))))))))
  have cv30 := H.cell (w7.heap.size) 0 (.int .i64 p3) (List.Mem.tail _ (List.Mem.tail _ (List.Mem.tail _ (List.Mem.tail _ (List.Mem.tail _ (List.Mem.tail _ (List.Mem.tail _ (List.Mem.tail _ (List.Mem.head _)))))))))
  have cv31 := H.cell (w7.heap.size) 1 (.int .i64 q3) (List.Mem.tail _ (List.Mem.tail _ (List.Mem.tail _ (List.Mem.tail _ (List.Mem.tail _ (List.Mem.tail _ (List.Mem.tail _ (List.Mem.tail _ (List.Mem.tail _ (List.Mem.head _))))))))))
  have lv3 := H.lt (w7.heap.size) 0 (.int .i64 p3) (List.Mem.tail _ (List.Mem.tail _ (List.Mem.tail _ (List.Mem.tail _ (List.Mem.tail _ (List.Mem.tail _ (List.Mem.tail _ (List.Mem.tail _ (List.Mem.head _)))))))))
  have cv40 := H.cell (w8.heap.size) 0 (.int .i64 p4) (List.Mem.tail _ (List.Mem.tail _ (List.Mem.tail _ (List.Mem.tail _ (List.Mem.head _)))))
  have cv41 := H.cell (w8.heap.size) 1 (.int .i64 q4) (List.Mem.tail _ (List.Mem.tail _ (List.Mem.tail _ (List.Mem.tail _ (List.Mem.tail _ (List.Mem.head _))))))
  have lv4 := H.lt (w8.heap.size) 0 (.int .i64 p4) (List.Mem.tail _ (List.Mem.tail _ (List.Mem.tail _ (List.Mem.tail _ (List.Mem.head _)))))
  have cv50 := H.cell (w9.heap.size) 0 (.int .i64 p5) (List.Mem.head _)
  have cv51 := H.cell (w9.heap.size) 1 (.int .i64 q5) (List.Mem.tail _ (List.Mem.head _))
  have lv5 := H.lt (w9.heap.size) 0 (.int .i64 p5) (List.Mem.head _)
  go_wp2
  clear cv00 cv01 lv0 cv10 cv11 lv1 cv20 cv21 lv2 cv30 cv31 lv3 cv40 cv41 lv4 cv50 cv51 lv5
  replace H := H.alloc (.cells #[.int .i64 p0, .int .i64 q0, .int .i64 p1, .int .i64 q1, .int .i64 p2, .int .i64 q2, .int .i64 p3, .int .i64 q3, .int .i64 p4, .int .i64 q4, .int .i64 p5, .int .i64 q5] 26)
  have eB : w9.heap.size + 1 = (w9.alloc (.cells #[.int .i64 p5, .int .i64 q5] 26)).heap.size := by simp
  replace H := H.add (f := .cell (w9.heap.size + 1) 11 (.int .i64 q5)) (by show World.cell? _ _ = _; rw [eB]; simp [World.cell?_alloc_new])
  replace H := H.add (f := .cell (w9.heap.size + 1) 10 (.int .i64 p5)) (by show World.cell? _ _ = _; rw [eB]; simp [World.cell?_alloc_new])
  replace H := H.add (f := .cell (w9.heap.size + 1) 9 (.int .i64 q4)) (by show World.cell? _ _ = _; rw [eB]; simp [World.cell?_alloc_new])
  replace H := H.add (f := .cell (w9.heap.size + 1) 8 (.int .i64 p4)) (by show World.cell? _ _ = _; rw [eB]; simp [World.cell?_alloc_new])
  replace H := H.add (f := .cell (w9.heap.size + 1) 7 (.int .i64 q3)) (by show World.cell? _ _ = _; rw [eB]; simp [World.cell?_alloc_new])
  replace H := H.add (f := .cell (w9.heap.size + 1) 6 (.int .i64 p3)) (by show World.cell? _ _ = _; rw [eB]; simp [World.cell?_alloc_new])
  replace H := H.add (f := .cell (w9.heap.size + 1) 5 (.int .i64 q2)) (by show World.cell? _ _ = _; rw [eB]; simp [World.cell?_alloc_new])
  replace H := H.add (f := .cell (w9.heap.size + 1) 4 (.int .i64 p2)) (by show World.cell? _ _ = _; rw [eB]; simp [World.cell?_alloc_new])
  replace H := H.add (f := .cell (w9.heap.size + 1) 3 (.int .i64 q1)) (by show World.cell? _ _ = _; rw [eB]; simp [World.cell?_alloc_new])
  replace H := H.add (f := .cell (w9.heap.size + 1) 2 (.int .i64 p1)) (by show World.cell? _ _ = _; rw [eB]; simp [World.cell?_alloc_new])
  replace H := H.add (f := .cell (w9.heap.size + 1) 1 (.int .i64 q0)) (by show World.cell? _ _ = _; rw [eB]; simp [World.cell?_alloc_new])
  replace H := H.add (f := .cell (w9.heap.size + 1) 0 (.int .i64 p0)) (by show World.cell? _ _ = _; rw [eB]; simp [World.cell?_alloc_new])
  clear eB
  go_loopw [22] (fun k W' => ∃ t : Nat, t ≤ 6 ∧ k = .int .i64 t ∧ Held w [.cell (w9.heap.size + 1) 0 (.int .i64 p0), .cell (w9.heap.size + 1) 1 (.int .i64 q0), .cell (w9.heap.size + 1) 2 (.int .i64 p1), .cell (w9.heap.size + 1) 3 (.int .i64 q1), .cell (w9.heap.size + 1) 4 (.int .i64 p2), .cell (w9.heap.size + 1) 5 (.int .i64 q2), .cell (w9.heap.size + 1) 6 (.int .i64 p3), .cell (w9.heap.size + 1) 7 (.int .i64 q3), .cell (w9.heap.size + 1) 8 (.int .i64 p4), .cell (w9.heap.size + 1) 9 (.int .i64 q4), .cell (w9.heap.size + 1) 10 (.int .i64 p5), .cell (w9.heap.size + 1) 11 (.int .i64 q5), .cell (w9.heap.size) 0 (.int .i64 p5), .cell (w9.heap.size) 1 (.int .i64 q5), .free (w9.heap.size) 0, .free (w9.heap.size) 1, .cell (w8.heap.size) 0 (.int .i64 p4), .cell (w8.heap.size) 1 (.int .i64 q4), .free (w8.heap.size) 0, .free (w8.heap.size) 1, .cell (w7.heap.size) 0 (.int .i64 p3), .cell (w7.heap.size) 1 (.int .i64 q3), .free (w7.heap.size) 0, .free (w7.heap.size) 1, .cell (w6.heap.size) 0 (.int .i64 p2), .cell (w6.heap.size) 1 (.int .i64 q2), .free (w6.heap.size) 0, .free (w6.heap.size) 1, .cell (w5.heap.size) 0 (.int .i64 p1), .cell (w5.heap.size) 1 (.int .i64 q1), .free (w5.heap.size) 0, .free (w5.heap.size) 1, .cell (w4.heap.size) 0 (.int .i64 p0), .cell (w4.heap.size) 1 (.int .i64 q0), .free (w4.heap.size) 0, .free (w4.heap.size) 1, lensF] W') (fun k _ => (6 - intOf k).toNat)
  case atStart => exact ⟨0, by omega, rfl, H⟩
  case round =>
    clear H
    obtain ⟨i, hi, rfl, H⟩ := hrel
    have ii : i = 0 ∨ i = 1 ∨ i = 2 ∨ i = 3 ∨ i = 4 ∨ i = 5 ∨ i = 6 := by omega
    clear hi
    rcases ii with rfl | rfl | rfl | rfl | rfl | rfl | rfl
    · have s0 := H.cell (w9.heap.size + 1) 0 (.int .i64 p0) (List.Mem.head _)
      have s1 := H.cell (w9.heap.size + 1) 1 (.int .i64 q0) (List.Mem.tail _ (List.Mem.head _))
      have ls := cell_lt s0
      go_wp2_with fail
      clear s0 s1 ls
      (with_reducible refine (rright_is p0 q0 true _ R0.out).mono ?_)
      rintro e w1 ⟨rfl, hb⟩
      replace H := H.below hb
      clear hb
      have s0 := H.cell (w9.heap.size + 1) 0 (.int .i64 p0) (List.Mem.head _)
      have s1 := H.cell (w9.heap.size + 1) 1 (.int .i64 q0) (List.Mem.tail _ (List.Mem.head _))
      have ls := cell_lt s0
      go_wp2
      exact ⟨⟨1, by omega, rfl, H⟩, by simp [intOf]⟩
    · have s0 := H.cell (w9.heap.size + 1) 2 (.int .i64 p1) (List.Mem.tail _ (List.Mem.tail _ (List.Mem.head _)))
      have s1 := H.cell (w9.heap.size + 1) 3 (.int .i64 q1) (List.Mem.tail _ (List.Mem.tail _ (List.Mem.tail _ (List.Mem.head _))))
      have ls := cell_lt s0
      go_wp2_with fail
      clear s0 s1 ls
      (with_reducible refine (rright_is p1 q1 true _ R1.out).mono ?_)
      rintro e w1 ⟨rfl, hb⟩
      replace H := H.below hb
      clear hb
      have s0 := H.cell (w9.heap.size + 1) 2 (.int .i64 p1) (List.Mem.tail _ (List.Mem.tail _ (List.Mem.head _)))
      have s1 := H.cell (w9.heap.size + 1) 3 (.int .i64 q1) (List.Mem.tail _ (List.Mem.tail _ (List.Mem.tail _ (List.Mem.head _))))
      have ls := cell_lt s0
      go_wp2
      exact ⟨⟨2, by omega, rfl, H⟩, by simp [intOf]⟩
    · have s0 := H.cell (w9.heap.size + 1) 4 (.int .i64 p2) (List.Mem.tail _ (List.Mem.tail _ (List.Mem.tail _ (List.Mem.tail _ (List.Mem.head _)))))
      have s1 := H.cell (w9.heap.size + 1) 5 (.int .i64 q2) (List.Mem.tail _ (List.Mem.tail _ (List.Mem.tail _ (List.Mem.tail _ (List.Mem.tail _ (List.Mem.head _))))))
      have ls := cell_lt s0
      go_wp2_with fail
      clear s0 s1 ls
      (with_reducible refine (rright_is p2 q2 true _ R2.out).mono ?_)
      rintro e w1 ⟨rfl, hb⟩
      replace H := H.below hb
      clear hb
      have s0 := H.cell (w9.heap.size + 1) 4 (.int .i64 p2) (List.Mem.tail _ (List.Mem.tail _ (List.Mem.tail _ (List.Mem.tail _ (List.Mem.head _)))))
      have s1 := H.cell (w9.heap.size + 1) 5 (.int .i64 q2) (List.Mem.tail _ (List.Mem.tail _ (List.Mem.tail _ (List.Mem.tail _ (List.Mem.tail _ (List.Mem.head _))))))
      have ls := cell_lt s0
      go_wp2
      exact ⟨⟨3, by omega, rfl, H⟩, by simp [intOf]⟩
    · have s0 := H.cell (w9.heap.size + 1) 6 (.int .i64 p3) (List.Mem.tail _ (List.Mem.tail _ (List.Mem.tail _ (List.Mem.tail _ (List.Mem.tail _ (List.Mem.tail _ (List.Mem.head _)))))))
      have s1 := H.cell (w9.heap.size + 1) 7 (.int .i64 q3) (List.Mem.tail _ (List.Mem.tail _ (List.Mem.tail _ (List.Mem.tail _ (List.Mem.tail _ (List.Mem.tail _ (List.Mem.tail _ (List.Mem.head _))))))))
      have ls := cell_lt s0
      go_wp2_with fail
      clear s0 s1 ls
      (with_reducible refine (rright_is p3 q3 true _ R3.out).mono ?_)
      rintro e w1 ⟨rfl, hb⟩
      replace H := H.below hb
      clear hb
      have s0 := H.cell (w9.heap.size + 1) 6 (.int .i64 p3) (List.Mem.tail _ (List.Mem.tail _ (List.Mem.tail _ (List.Mem.tail _ (List.Mem.tail _ (List.Mem.tail _ (List.Mem.head _)))))))
      have s1 := H.cell (w9.heap.size + 1) 7 (.int .i64 q3) (List.Mem.tail _ (List.Mem.tail _ (List.Mem.tail _ (List.Mem.tail _ (List.Mem.tail _ (List.Mem.tail _ (List.Mem.tail _ (List.Mem.head _))))))))
      have ls := cell_lt s0
      go_wp2
      exact ⟨⟨4, by omega, rfl, H⟩, by simp [intOf]⟩
    · have s0 := H.cell (w9.heap.size + 1) 8 (.int .i64 p4) (List.Mem.tail _ (List.Mem.tail _ (List.Mem.tail _ (List.Mem.tail _ (List.Mem.tail _ (List.Mem.tail _ (List.Mem.tail _ (List.Mem.tail _ (List.Mem.head _)))))))))
      have s1 := H.cell (w9.heap.size + 1) 9 (.int .i64 q4) (List.Mem.tail _ (List.Mem.tail _ (List.Mem.tail _ (List.Mem.tail _ (List.Mem.tail _ (List.Mem.tail _ (List.Mem.tail _ (List.Mem.tail _ (List.Mem.tail _ (List.Mem.head _))))))))))
      have ls := cell_lt s0
      go_wp2_with fail
      clear s0 s1 ls
      (with_reducible refine (rright_is p4 q4 true _ R4.out).mono ?_)
      rintro e w1 ⟨rfl, hb⟩
      replace H := H.below hb
      clear hb
      have s0 := H.cell (w9.heap.size + 1) 8 (.int .i64 p4) (List.Mem.tail _ (List.Mem.tail _ (List.Mem.tail _ (List.Mem.tail _ (List.Mem.tail _ (List.Mem.tail _ (List.Mem.tail _ (List.Mem.tail _ (List.Mem.head _)))))))))
      have s1 := H.cell (w9.heap.size + 1) 9 (.int .i64 q4) (List.Mem.tail _ (List.Mem.tail _ (List.Mem.tail _ (List.Mem.tail _ (List.Mem.tail _ (List.Mem.tail _ (List.Mem.tail _ (List.Mem.tail _ (List.Mem.tail _ (List.Mem.head _))))))))))
      have ls := cell_lt s0
      go_wp2
      exact ⟨⟨5, by omega, rfl, H⟩, by simp [intOf]⟩
    · have s0 := H.cell (w9.heap.size + 1) 10 (.int .i64 p5) (List.Mem.tail _ (List.Mem.tail _ (List.Mem.tail _ (List.Mem.tail _ (List.Mem.tail _ (List.Mem.tail _ (List.Mem.tail _ (List.Mem.tail _ (List.Mem.tail _ (List.Mem.tail _ (List.Mem.head _)))))))))))
      have s1 := H.cell (w9.heap.size + 1) 11 (.int .i64 q5) (List.Mem.tail _ (List.Mem.tail _ (List.Mem.tail _ (List.Mem.tail _ (List.Mem.tail _ (List.Mem.tail _ (List.Mem.tail _ (List.Mem.tail _ (List.Mem.tail _ (List.Mem.tail _ (List.Mem.tail _ (List.Mem.head _))))))))))))
      have ls := cell_lt s0
      go_wp2_with fail
      clear s0 s1 ls
      (with_reducible refine (rright_is p5 q5 true _ R5.out).mono ?_)
      rintro e w1 ⟨rfl, hb⟩
      replace H := H.below hb
      clear hb
      have s0 := H.cell (w9.heap.size + 1) 10 (.int .i64 p5) (List.Mem.tail _ (List.Mem.tail _ (List.Mem.tail _ (List.Mem.tail _ (List.Mem.tail _ (List.Mem.tail _ (List.Mem.tail _ (List.Mem.tail _ (List.Mem.tail _ (List.Mem.tail _ (List.Mem.head _)))))))))))
      have s1 := H.cell (w9.heap.size + 1) 11 (.int .i64 q5) (List.Mem.tail _ (List.Mem.tail _ (List.Mem.tail _ (List.Mem.tail _ (List.Mem.tail _ (List.Mem.tail _ (List.Mem.tail _ (List.Mem.tail _ (List.Mem.tail _ (List.Mem.tail _ (List.Mem.tail _ (List.Mem.head _))))))))))))
      have ls := cell_lt s0
      go_wp2
      exact ⟨⟨6, by omega, rfl, H⟩, by simp [intOf]⟩
    · have h0 := H.old
      have cv20 := H.cell (w6.heap.size) 0 (.int .i64 p2) (List.Mem.tail _ (List.Mem.tail _ (List.Mem.tail _ (List.Mem.tail _ (List.Mem.tail _ (List.Mem.tail _ (List.Mem.tail _ (List.Mem.tail _ (List.Mem.tail _ (List.Mem.tail _ (List.Mem.tail _ (List.Mem.tail _ (List.Mem.tail _ (List.Mem.tail _ (List.Mem.tail _ (List.Mem.tail _ (List.Mem.tail _ (List.Mem.tail _ (List.Mem.tail _ (List.Mem.tail _ (List.Mem.tail _ (List.Mem.tail _ (List.Mem.tail _ (List.Mem.tail _ (List.Mem.head _)))))))))))))))))))))))))
      have cv21 := H.cell (w6.heap.size) 1 (.int .i64 q2) (List.Mem.tail _ (List.Mem.tail _ (List.Mem.tail _ (List.Mem.tail _ (List.Mem.tail _ (List.Mem.tail _ (List.Mem.tail _ (List.Mem.tail _ (List.Mem.tail _ (List.Mem.tail _ (List.Mem.tail _ (List.Mem.tail _ (List.Mem.tail _ (List.Mem.tail _ (List.Mem.tail _ (List.Mem.tail _ (List.Mem.tail _ (List.Mem.tail _ (List.Mem.tail _ (List.Mem.tail _ (List.Mem.tail _ (List.Mem.tail _ (List.Mem.tail _ (List.Mem.tail _ (List.Mem.tail _ (List.Mem.head _))))))))))))))))))))))))))
      have lv2 := H.lt (w6.heap.size) 0 (.int .i64 p2) (List.Mem.tail _ (List.Mem.tail _ (List.Mem.tail _ (List.Mem.tail _ (List.Mem.tail _ (List.Mem.tail _ (List.Mem.tail _ (List.Mem.tail _ (List.Mem.tail _ (List.Mem.tail _ (List.Mem.tail _ (List.Mem.tail _ (List.Mem.tail _ (List.Mem.tail _ (List.Mem.tail _ (List.Mem.tail _ (List.Mem.tail _ (List.Mem.tail _ (List.Mem.tail _ (List.Mem.tail _ (List.Mem.tail _ (List.Mem.tail _ (List.Mem.tail _ (List.Mem.tail _ (List.Mem.head _)))))))))))))))))))))))))
      have cv30 := H.cell (w7.heap.size) 0 (.int .i64 p3) (List.Mem.tail _ (List.Mem.tail _ (List.Mem.tail _ (List.Mem.tail _ (List.Mem.tail _ (List.Mem.tail _ (List.Mem.tail _ (List.Mem.tail _ (List.Mem.tail _ (List.Mem.tail _ (List.Mem.tail _ (List.Mem.tail _ (List.Mem.tail _ (List.Mem.tail _ (List.Mem.tail _ (List.Mem.tail _ (List.Mem.tail _ (List.Mem.tail _ (List.Mem.tail _ (List.Mem.tail _ (List.Mem.head _)))))))))))))))))))))
      have cv31 := H.cell (w7.heap.size) 1 (.int .i64 q3) (List.Mem.tail _ (List.Mem.tail _ (List.Mem.tail _ (List.Mem.tail _ (List.Mem.tail _ (List.Mem.tail _ (List.Mem.tail _ (List.Mem.tail _ (List.Mem.tail _ (List.Mem.tail _ (List.Mem.tail _ (List.Mem.tail _ (List.Mem.tail _ (List.Mem.tail _ (List.Mem.tail _ (List.Mem.tail _ (List.Mem.tail _ (List.Mem.tail _ (List.Mem.tail _ (List.Mem.tail _ (List.Mem.tail _ (List.Mem.head _))))))))))))))))))))))
      have lv3 := H.lt (w7.heap.size) 0 (.int .i64 p3) (List.Mem.tail _ (List.Mem.tail _ (List.Mem.tail _ (List.Mem.tail _ (List.Mem.tail _ (List.Mem.tail _ (List.Mem.tail _ (List.Mem.tail _ (List.Mem.tail _ (List.Mem.tail _ (List.Mem.tail _ (List.Mem.tail _ (List.Mem.tail _ (List.Mem.tail _ (List.Mem.tail _ (List.Mem.tail _ (List.Mem.tail _ (List.Mem.tail _ (List.Mem.tail _ (List.Mem.tail _ (List.Mem.head _)))))))))))))))))))))
      go_wp2_with fail
      clear cv20 cv21 lv2 cv30 cv31 lv3
      (with_reducible refine (refcmp_is p2 q2 p3 q3 c1 _ R2.out R3.out K1.out).mono ?_)
      rintro e w10 ⟨rfl, hb⟩
      replace H := H.below hb
      clear hb
      have cv40 := H.cell (w8.heap.size) 0 (.int .i64 p4) (List.Mem.tail _ (List.Mem.tail _ (List.Mem.tail _ (List.Mem.tail _ (List.Mem.tail _ (List.Mem.tail _ (List.Mem.tail _ (List.Mem.tail _ (List.Mem.tail _ (List.Mem.tail _ (List.Mem.tail _ (List.Mem.tail _ (List.Mem.tail _ (List.Mem.tail _ (List.Mem.tail _ (List.Mem.tail _ (List.Mem.head _)))))))))))))))))
      have cv41 := H.cell (w8.heap.size) 1 (.int .i64 q4) (List.Mem.tail _ (List.Mem.tail _ (List.Mem.tail _ (List.Mem.tail _ (List.Mem.tail _ (List.Mem.tail _ (List.Mem.tail _ (List.Mem.tail _ (List.Mem.tail _ (List.Mem.tail _ (List.Mem.tail _ (List.Mem.tail _ (List.Mem.tail _ (List.Mem.tail _ (List.Mem.tail _ (List.Mem.tail _ (List.Mem.tail _ (List.Mem.head _))))))))))))))))))
      have lv4 := H.lt (w8.heap.size) 0 (.int .i64 p4) (List.Mem.tail _ (List.Mem.tail _ (List.Mem.tail _ (List.Mem.tail _ (List.Mem.tail _ (List.Mem.tail _ (List.Mem.tail _ (List.Mem.tail _ (List.Mem.tail _ (List.Mem.tail _ (List.Mem.tail _ (List.Mem.tail _ (List.Mem.tail _ (List.Mem.tail _ (List.Mem.tail _ (List.Mem.tail _ (List.Mem.head _)))))))))))))))))
      have cv50 := H.cell (w9.heap.size) 0 (.int .i64 p5) (List.Mem.tail _ (List.Mem.tail _ (List.Mem.tail _ (List.Mem.tail _ (List.Mem.tail _ (List.Mem.tail _ (List.Mem.tail _ (List.Mem.tail _ (List.Mem.tail _ (List.Mem.tail _ (List.Mem.tail _ (List.Mem.tail _ (List.Mem.head _)))))))))))))
      have cv51 := H.cell (w9.heap.size) 1 (.int .i64 q5) (List.Mem.tail _ (List.Mem.tail _ (List.Mem.tail _ (List.Mem.tail _ (List.Mem.tail _ (List.Mem.tail _ (List.Mem.tail _ (List.Mem.tail _ (List.Mem.tail _ (List.Mem.tail _ (List.Mem.tail _ (List.Mem.tail _ (List.Mem.tail _ (List.Mem.head _))))))))))))))
      have lv5 := H.lt (w9.heap.size) 0 (.int .i64 p5) (List.Mem.tail _ (List.Mem.tail _ (List.Mem.tail _ (List.Mem.tail _ (List.Mem.tail _ (List.Mem.tail _ (List.Mem.tail _ (List.Mem.tail _ (List.Mem.tail _ (List.Mem.tail _ (List.Mem.tail _ (List.Mem.tail _ (List.Mem.head _)))))))))))))
      go_wp2_with fail
      clear cv40 cv41 lv4 cv50 cv51 lv5
      (with_reducible refine (refcmp_is p4 q4 p5 q5 c2 _ R4.out R5.out K2.out).mono ?_)
      rintro e w11 ⟨rfl, hb⟩
      replace H := H.below hb
      clear hb
      have cv00 := H.cell (w4.heap.size) 0 (.int .i64 p0) (List.Mem.tail _ (List.Mem.tail _ (List.Mem.tail _ (List.Mem.tail _ (List.Mem.tail _ (List.Mem.tail _ (List.Mem.tail _ (List.Mem.tail _ (List.Mem.tail _ (List.Mem.tail _ (List.Mem.tail _ (List.Mem.tail _ (List.Mem.tail _ (List.Mem.tail _ (List.Mem.tail _ (List.Mem.tail _ (List.Mem.tail _ (List.Mem.tail _ (List.Mem.tail _ (List.Mem.tail _ (List.Mem.tail _ (List.Mem.tail _ (List.Mem.tail _ (List.Mem.tail _ (List.Mem.tail _ (List.Mem.tail _ (List.Mem.tail _ (List.Mem.tail _ (List.Mem.tail _ (List.Mem.tail _ (List.Mem.tail _ (List.Mem.tail _ (List.Mem.head _)))))))))))))))))))))))))))))))))
      have cv01 := H.cell (w4.heap.size) 1 (.int .i64 q0) (List.Mem.tail _ (List.Mem.tail _ (List.Mem.tail _ (List.Mem.tail _ (List.Mem.tail _ (List.Mem.tail _ (List.Mem.tail _ (List.Mem.tail _ (List.Mem.tail _ (List.Mem.tail _ (List.Mem.tail _ (List.Mem.tail _ (List.Mem.tail _ (List.Mem.tail _ (List.Mem.tail _ (List.Mem.tail _ (List.Mem.tail _ (List.Mem.tail _ (List.Mem.tail _ (List.Mem.tail _ (List.Mem.tail _ (List.Mem.tail _ (List.Mem.tail _ (List.Mem.tail _ (List.Mem.tail _ (List.Mem.tail _ (List.Mem.tail _ (List.Mem.tail _ (List.Mem.tail _ (List.Mem.tail _ (List.Mem.tail _ (List.Mem.tail _ (List.Mem.tail _ (List.Mem.head _))))))))))))))))))))))))))))))))))
      have lv0 := H.lt (w4.heap.size) 0 (.int .i64 p0) (List.Mem.tail _ (List.Mem.tail _ (List.Mem.tail _ (List.Mem.tail _ (List.Mem.tail _ (List.Mem.tail _ (List.Mem.tail _ (List.Mem.tail _ (List.Mem.tail _ (List.Mem.tail _ (List.Mem.tail _ (List.Mem.tail _ (List.Mem.tail _ (List.Mem.tail _ (List.Mem.tail _ (List.Mem.tail _ (List.Mem.tail _ (List.Mem.tail _ (List.Mem.tail _ (List.Mem.tail _ (List.Mem.tail _ (List.Mem.tail _ (List.Mem.tail _ (List.Mem.tail _ (List.Mem.tail _ (List.Mem.tail _ (List.Mem.tail _ (List.Mem.tail _ (List.Mem.tail _ (List.Mem.tail _ (List.Mem.tail _ (List.Mem.tail _ (List.Mem.head _)))))))))))))))))))))))))))))))))
      have cv10 := H.cell (w5.heap.size) 0 (.int .i64 p1) (List.Mem.tail _ (List.Mem.tail _ (List.Mem.tail _ (List.Mem.tail _ (List.Mem.tail _ (List.Mem.tail _ (List.Mem.tail _ (List.Mem.tail _ (List.Mem.tail _ (List.Mem.tail _ (List.Mem.tail _ (List.Mem.tail _ (List.Mem.tail _ (List.Mem.tail _ (List.Mem.tail _ (List.Mem.tail _ (List.Mem.tail _ (List.Mem.tail _ (List.Mem.tail _ (List.Mem.tail _ (List.Mem.tail _ (List.Mem.tail _ (List.Mem.tail _ (List.Mem.tail _ (List.Mem.tail _ (List.Mem.tail _ (List.Mem.tail _ (List.Mem.tail _ (List.Mem.head _)))))))))))))))))))))))))))))
      have cv11 := H.cell (w5.heap.size) 1 (.int .i64 q1) (List.Mem.tail _ (List.Mem.tail _ (List.Mem.tail _ (List.Mem.tail _ (List.Mem.tail _ (List.Mem.tail _ (List.Mem.tail _ (List.Mem.tail _ (List.Mem.tail _ (List.Mem.tail _ (List.Mem.tail _ (List.Mem.tail _ (List.Mem.tail _ (List.Mem.tail _ (List.Mem.tail _ (List.Mem.tail _ (List.Mem.tail _ (List.Mem.tail _ (List.Mem.tail _ (List.Mem.tail _ (List.Mem.tail _ (List.Mem.tail _ (List.Mem.tail _ (List.Mem.tail _ (List.Mem.tail _ (List.Mem.tail _ (List.Mem.tail _ (List.Mem.tail _ (List.Mem.tail _ (List.Mem.head _))))))))))))))))))))))))))))))
      have lv1 := H.lt (w5.heap.size) 0 (.int .i64 p1) (List.Mem.tail _ (List.Mem.tail _ (List.Mem.tail _ (List.Mem.tail _ (List.Mem.tail _ (List.Mem.tail _ (List.Mem.tail _ (List.Mem.tail _ (List.Mem.tail _ (List.Mem.tail _ (List.Mem.tail _ (List.Mem.tail _ (List.Mem.tail _ (List.Mem.tail _ (List.Mem.tail _ (List.Mem.tail _ (List.Mem.tail _ (List.Mem.tail _ (List.Mem.tail _ (List.Mem.tail _ (List.Mem.tail _ (List.Mem.tail _ (List.Mem.tail _ (List.Mem.tail _ (List.Mem.tail _ (List.Mem.tail _ (List.Mem.tail _ (List.Mem.tail _ (List.Mem.head _)))))))))))))))))))))))))))))
      go_wp2_with fail
      clear cv00 cv01 lv0 cv10 cv11 lv1
      (with_reducible refine (refcmp_is p0 q0 p1 q1 c3 _ R0.out R1.out K3.out).mono ?_)
      rintro e w12 ⟨rfl, hb⟩
      replace H := H.below hb
      clear hb
      go_wp2_with fail
      go_ret
      exact ⟨rfl, H.old⟩

theorem tgrows_walk (K : Ways) (a b o : Int) (t : Bool) (w : World) (hL : Lens w) (ha : -9223372036854775808 ≤ a ∧ a < 9223372036854775808) (hb : -9223372036854775808 ≤ b ∧ b < 9223372036854775808) (bo : 0 ≤ o ∧ o < 256) :
    Calls Tryd.prog 5 #[.agg #[.int .i64 a, .int .i64 b, .int .u8 o, .bool t]] w fun e w' => e = .returned (.bool true) ∧ Below w.heap.size w w' := by
  by_cases h1 : a < 1 ∨ 3652059 < a
  · exact tgrows_a K a b o t w hL h1
  · by_cases h2 : b < 1 ∨ 3652059 < b
    · exact tgrows_b K a b o t w hL (by omega) h2
    · by_cases h3 : a > b
      · exact tgrows_gt K a b o t w hL (by omega) (by omega) bo h3
      · by_cases h4 : b + o > 3652059
        · exact tgrows_far K a b o t w hL (by omega) (by omega) bo h3 h4
        · obtain ⟨y1, m1, d1, a1, a2⟩ := day_of a (by omega) (by omega)
          obtain ⟨y2, m2, d2, b1, b2⟩ := day_of b (by omega) (by omega)
          obtain ⟨y3, m3, d3, c1, c2⟩ := day_of (b + o) (by omega) (by omega)
          have zb : decide (b = 0) = false := decide_eq_false (by omega)
          have zc : decide (b + o = 0) = false := decide_eq_false (by omega)
          have lex := nb_lex _ _ _ _ _ _ b1 c1 (by omega)
          have dd : ∀ y m d, may y m d → 1 ≤ d ∧ d ≤ 31 := fun y m d h => by
            obtain ⟨-, -, -, -, h5, h6⟩ := h
            have := ln_le y m
            omega
          have g1 := dd _ _ _ a1
          have g2 := dd _ _ _ b1
          have g3 := dd _ _ _ c1
          -- the three ways grow
          have k2 := cutD_bd d2 g2.1 g2.2
          have k3 := cutD_bd d3 g3.1 g3.2
          have mE : eX y1 m1 d1 y2 m2 d2 ≤ eX y1 m1 d1 y3 m3 d3 := px_mono _ _ _ _ _ _ _ _ _ (by
            rcases lex with l | ⟨l1, l2, l3⟩
            · exact Or.inl l
            · exact Or.inr ⟨l1, l2, cutD_le d2 d3 l3 g3.2⟩) ⟨k2.1, by omega⟩ ⟨k3.1, by omega⟩
          have f2 := fulD_bd _ _ _ b1
          have f3 := fulD_bd _ _ _ c1
          have f1 := fulD_bd _ _ _ a1
          have mI : iX false y1 m1 d1 y2 m2 d2 ≤ iX false y1 m1 d1 y3 m3 d3 := by
            unfold iX
            rw [isB_no, isB_no]
            refine px_mono _ _ _ _ _ _ _ _ _ ?_ ⟨f2.1, by omega⟩ ⟨f3.1, by omega⟩
            rcases lex with l | ⟨l1, l2, l3⟩
            · exact Or.inl l
            · subst l1 l2; exact Or.inr ⟨rfl, rfl, fulD_le _ _ d2 d3 c1 l3⟩
          have u2 := us_bd t (febB y1 m1 d1) (febB y2 m2 d2) (usA t (febB y1 m1 d1) d1) d2 g2
          have u3 := us_bd t (febB y1 m1 d1) (febB y3 m3 d3) (usA t (febB y1 m1 d1) d1) d3 g3
          have mU : uX t y1 m1 d1 y2 m2 d2 ≤ uX t y1 m1 d1 y3 m3 d3 := by
            unfold uX
            refine px_mono _ _ _ _ _ _ _ _ _ ?_ u2 u3
            rcases lex with l | ⟨l1, l2, l3⟩
            · exact Or.inl l
            · subst l1 l2; exact Or.inr ⟨rfl, rfl, us_le t _ _ _ _ d2 d3 c1 l3⟩
          have a0 : 0 ≤ cutD (usA t (febB y1 m1 d1) d1) ∧ cutD (usA t (febB y1 m1 d1) d1) ≤ 31 := by
            unfold cutD usA; split <;> split <;> omega
          have j1 := cutD_bd d1 g1.1 g1.2
          have U2 : 0 ≤ uX t y1 m1 d1 y2 m2 d2 ∧ uX t y1 m1 d1 y2 m2 d2 ≤ 3700000 := px_most _ _ _ _ _ _ _ _ a1 b1 a0 ⟨by omega, by omega⟩
          have U3 : 0 ≤ uX t y1 m1 d1 y3 m3 d3 ∧ uX t y1 m1 d1 y3 m3 d3 ≤ 3700000 := px_most _ _ _ _ _ _ _ _ a1 c1 a0 ⟨by omega, by omega⟩
          have E2 : 0 ≤ eX y1 m1 d1 y2 m2 d2 ∧ eX y1 m1 d1 y2 m2 d2 ≤ 3700000 := px_most _ _ _ _ _ _ _ _ a1 b1 ⟨by omega, by omega⟩ ⟨by omega, by omega⟩
          have E3 : 0 ≤ eX y1 m1 d1 y3 m3 d3 ∧ eX y1 m1 d1 y3 m3 d3 ≤ 3700000 := px_most _ _ _ _ _ _ _ _ a1 c1 ⟨by omega, by omega⟩ ⟨by omega, by omega⟩
          have I2 : 0 ≤ iX false y1 m1 d1 y2 m2 d2 ∧ iX false y1 m1 d1 y2 m2 d2 ≤ 3700000 := by
            unfold iX; rw [isB_no]; exact px_most _ _ _ _ _ _ _ _ a1 b1 ⟨by omega, by omega⟩ ⟨by omega, by omega⟩
          have I3 : 0 ≤ iX false y1 m1 d1 y3 m3 d3 ∧ iX false y1 m1 d1 y3 m3 d3 ≤ 3700000 := by
            unfold iX; rw [isB_no]; exact px_most _ _ _ _ _ _ _ _ a1 c1 ⟨by omega, by omega⟩ ⟨by omega, by omega⟩
          exact tgrows_in K a b o _ _ _ _ _ _ _ _ _ _ _ _ _ _ _ t w hL (by omega) (by omega) bo h3 h4
            (part_in y1 m1 d1 y2 m2 d2 a1 a2 b1 b2 (by omega) _ rfl rfl rfl) (part_right _ U2.1 U2.2) (part_div _ U2.1 U2.2)
            (part_in y1 m1 d1 y3 m3 d3 a1 a2 c1 c2 (by omega) _ rfl rfl rfl) (part_right _ U3.1 U3.2) (part_div _ U3.1 U3.2)
            (part_in y1 m1 d1 y2 m2 d2 a1 a2 b1 b2 (by omega) _ rfl rfl rfl) (part_right _ E2.1 E2.2) (part_div _ E2.1 E2.2)
            (part_in y1 m1 d1 y3 m3 d3 a1 a2 c1 c2 (by omega) _ rfl rfl rfl) (part_right _ E3.1 E3.2) (part_div _ E3.1 E3.2)
            (by rw [zb]; exact part_in y1 m1 d1 y2 m2 d2 a1 a2 b1 b2 (by omega) _ rfl rfl rfl) (part_right _ I2.1 I2.2) (part_div _ I2.1 I2.2)
            (by rw [zc]; exact part_in y1 m1 d1 y3 m3 d3 a1 a2 c1 c2 (by omega) _ rfl rfl rfl) (part_right _ I3.1 I3.2) (part_div _ I3.1 I3.2)
            rfl rfl rfl (part_cmp _ _ E2.1 E3.2 mE) (part_cmp _ _ I2.1 I3.2 mI) (part_cmp _ _ U2.1 U3.2 mU)
end Go.Proofs.YtkmjaoiehmddcaaDoor
