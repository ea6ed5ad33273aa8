/- ActualBetween: the walk. -/
import Derived.Test.YtobdimekjhdefaaDoorAcShown
namespace Go.Proofs.YtobdimekjhdefaaDoor
open Go.RowKit
set_option linter.unusedVariables false
set_option linter.unusedSimpArgs false

theorem refcmp8_is (an ad bn bd c : Int) (w : World) (ha : rightB an ad = true) (hb : rightB bn bd = true) (h : cmpI (an * bd) (bn * ad) = c) :
    Calls Tryd.prog 20 #[.agg #[.int .i64 an, .int .i64 ad], .agg #[.int .i64 bn, .int .i64 bd]] w fun e w' => e = .returned (.int .i64 c) ∧ Below w.heap.size w w' := by
  subst h; exact refcmp_any an ad bn bd w ha hb
theorem ac_cmp (x k y l : Int) (x0 : 0 ≤ x) (x1 : x ≤ 4000000000) (y0 : 0 ≤ y) (y1 : y ≤ 4000000000) (k0 : 0 < k) (k1 : k ≤ 200000) (l0 : 0 < l) (l1 : l ≤ 200000) (h : y * k ≤ x * l) : 0 ≤ cmpI (rN x k * rD y l) (rN y l * rD x k) := by
  have a := r_yes (fit_den x k x0 x1 k0 k1)
  have b := r_yes (fit_den y l y0 y1 l0 l1)
  rw [a.1, a.2.1, b.1, b.2.1]
  have c1 := m_cross x k
  have c2 := m_cross y l
  have p1 := mD_pos x k k0
  have p2 := mD_pos y l l0
  have e : (mN y l * mD x k) * (k * l) ≤ (mN x k * mD y l) * (k * l) := by
    have e1 : (mN y l * mD x k) * (k * l) = (y * k) * (mD x k * mD y l) := by grind
    have e2 : (mN x k * mD y l) * (k * l) = (x * l) * (mD x k * mD y l) := by grind
    rw [e1, e2]
    exact Int.mul_le_mul_of_nonneg_right h (Int.le_of_lt (Int.mul_pos p1 p2))
  have f := Int.le_of_mul_le_mul_right e (Int.mul_pos k0 l0)
  unfold cmpI
  repeat' split
  all_goals omega
theorem ac_zero (x k : Int) (x0 : 0 ≤ x) (x1 : x ≤ 4000000000) (k0 : 0 < k) (k1 : k ≤ 200000) : (x = 0 → rN x k = 0) ∧ (0 < x → 0 < rN x k) ∧ rN x k * k = x * rD x k ∧ 0 ≤ rN x k ∧ rN x k ≤ x ∧ 1 ≤ rD x k ∧ rD x k ≤ k := by
  have a := r_yes (fit_den x k x0 x1 k0 k1)
  rw [a.1, a.2.1]
  have c := m_cross x k
  have p := mD_pos x k k0
  have q := mN_nonneg x k x0
  have l := m_le x k x0 (by omega)
  refine ⟨fun h => ?_, fun h => ?_, c, q, l.1, by omega, l.2⟩
  · have := l.1; omega
  · by_cases z : mN x k = 0
    · rw [z] at c
      have := Int.mul_pos h p
      omega
    · omega

set_option maxHeartbeats 4000000 in
set_option maxRecDepth 100000 in
theorem abetween_a (K : Ways) (a b : Int) (w : World) (hL : Facts w) (h : a < 1 ∨ 3652059 < a) :
    Calls Tryd.prog 6 #[.int .i64 a, .int .i64 b] w fun e w' => e = .returned (.bool true) ∧ Below w.heap.size w w' := by
  have H := (Held.start w).add (f := factsF) hL
  clear hL
  have D1 : Hid (decide (1 ≤ a ∧ a ≤ 3652059) = false) := Lib.hid (by rw [decide_eq_false_iff_not]; omega)
  clear h
  go_enter Tryd.func6, Tryd.ntmps6
  go_wp2_with fail
  (with_reducible refine (ashown_any K _ (H.facts (List.Mem.head _))).mono ?_)
  rintro e w1 ⟨rfl, hb⟩
  replace H := H.below hb
  clear hb
  go_wp2_with fail
  (with_reducible refine (rday_is a false _ D1.out).mono ?_)
  rintro e w2 ⟨rfl, hb⟩
  replace H := H.below hb
  clear hb
  go_wp2_with fail
  go_ret
  exact ⟨rfl, H.old⟩

set_option maxHeartbeats 4000000 in
set_option maxRecDepth 100000 in
theorem abetween_b (K : Ways) (a b : Int) (w : World) (hL : Facts w) (h1 : 1 ≤ a ∧ a ≤ 3652059) (h : b < 1 ∨ 3652059 < b) :
    Calls Tryd.prog 6 #[.int .i64 a, .int .i64 b] w fun e w' => e = .returned (.bool true) ∧ Below w.heap.size w w' := by
  have H := (Held.start w).add (f := factsF) hL
  clear hL
  have D1 : Hid (decide (1 ≤ a ∧ a ≤ 3652059) = true) := Lib.hid (by rw [decide_eq_true_eq]; exact h1)
  have D2 : Hid (decide (1 ≤ b ∧ b ≤ 3652059) = false) := Lib.hid (by rw [decide_eq_false_iff_not]; omega)
  clear h
  go_enter Tryd.func6, Tryd.ntmps6
  go_wp2_with fail
  (with_reducible refine (ashown_any K _ (H.facts (List.Mem.head _))).mono ?_)
  rintro e w1 ⟨rfl, hb⟩
  replace H := H.below hb
  clear hb
  go_wp2_with fail
  (with_reducible refine (rday_is a true _ D1.out).mono ?_)
  rintro e w2 ⟨rfl, hb⟩
  replace H := H.below hb
  clear hb
  go_wp2_with fail
  (with_reducible refine (rday_is b false _ D2.out).mono ?_)
  rintro e w3 ⟨rfl, hb⟩
  replace H := H.below hb
  clear hb
  go_wp2_with fail
  go_ret
  exact ⟨rfl, H.old⟩

set_option maxHeartbeats 4000000 in
set_option maxRecDepth 100000 in
theorem abetween_gt (K : Ways) (a b : Int) (w : World) (hL : Facts w) (h1 : 1 ≤ a ∧ a ≤ 3652059) (h2 : 1 ≤ b ∧ b ≤ 3652059) (h : a > b) :
    Calls Tryd.prog 6 #[.int .i64 a, .int .i64 b] w fun e w' => e = .returned (.bool true) ∧ Below w.heap.size w w' := by
  have H := (Held.start w).add (f := factsF) hL
  clear hL
  have D1 : Hid (decide (1 ≤ a ∧ a ≤ 3652059) = true) := Lib.hid (by rw [decide_eq_true_eq]; exact h1)
  have D2 : Hid (decide (1 ≤ b ∧ b ≤ 3652059) = true) := Lib.hid (by rw [decide_eq_true_eq]; exact h2)
  go_enter Tryd.func6, Tryd.ntmps6
  go_wp2_with fail
  (with_reducible refine (ashown_any K _ (H.facts (List.Mem.head _))).mono ?_)
  rintro e w1 ⟨rfl, hb⟩
  replace H := H.below hb
  clear hb
  go_wp2_with fail
  (with_reducible refine (rday_is a true _ D1.out).mono ?_)
  rintro e w2 ⟨rfl, hb⟩
  replace H := H.below hb
  clear hb
  go_wp2_with fail
  (with_reducible refine (rday_is b true _ D2.out).mono ?_)
  rintro e w3 ⟨rfl, hb⟩
  replace H := H.below hb
  clear hb
  go_wp2_with fail
  go_ret
  exact ⟨rfl, H.old⟩

set_option maxHeartbeats 4000000 in
set_option maxRecDepth 100000 in
theorem abetween_eq (K : Ways) (a b p0 q0 p1 q1 p2 q2 p3 q3 c0 c1 c2 : Int) (w : World) (hL : Facts w) (h1 : 1 ≤ a ∧ a ≤ 3652059) (h2 : 1 ≤ b ∧ b ≤ 3652059) (g : a = b) (w0 : AcIs aX 360 a b p0 q0 0) (r0 : rightB p0 q0 = true) (z0 : 0 ≤ p0 ∧ p0 ≤ 4000000000 ∧ 1 ≤ q0 ∧ q0 ≤ 200000) (w1 : AcIs aX 365 a b p1 q1 0) (r1 : rightB p1 q1 = true) (z1 : 0 ≤ p1 ∧ p1 ≤ 4000000000 ∧ 1 ≤ q1 ∧ q1 ≤ 200000) (w2 : AcIs yX 133590 a b p2 q2 0) (r2 : rightB p2 q2 = true) (z2 : 0 ≤ p2 ∧ p2 ≤ 4000000000 ∧ 1 ≤ q2 ∧ q2 ≤ 200000) (hw : rN 0 366 = p3 ∧ rD 0 366 = q3 ∧ rE 0 366 = 0) (r3 : rightB p3 q3 = true) (k0 : cmpI (p0 * q1) (p1 * q0) = c0) (k1 : cmpI (p1 * q2) (p2 * q1) = c1) (k2 : cmpI (p2 * q3) (p3 * q2) = c2) (n0 : 0 ≤ c0) (n1 : 0 ≤ c1) (n2 : 0 ≤ c2) (e2 : p2 = 0) (e0 : p0 = 0) (e1 : p1 = 0) :
    Calls Tryd.prog 6 #[.int .i64 a, .int .i64 b] w fun e w' => e = .returned (.bool true) ∧ Below w.heap.size w w' := by
  have H := (Held.start w).add (f := factsF) hL
  clear hL
  subst g
  have D1 : Hid (decide (1 ≤ a ∧ a ≤ 3652059) = true) := Lib.hid (by rw [decide_eq_true_eq]; exact h1)
  have W0 := Lib.hid w0
  have R0 := Lib.hid r0
  clear w0 r0
  have W1 := Lib.hid w1
  have R1 := Lib.hid r1
  clear w1 r1
  have W2 := Lib.hid w2
  have R2 := Lib.hid r2
  clear w2 r2
  have HW := Lib.hid hw
  have R3 := Lib.hid r3
  have K0 := Lib.hid k0
  have K1 := Lib.hid k1
  have K2 := Lib.hid k2
  clear hw r3 k0 k1 k2
  subst e0 e1 e2
  go_enter Tryd.func6, Tryd.ntmps6
  go_wp2_with fail
  (with_reducible refine (ashown_any K _ (H.facts (List.Mem.head _))).mono ?_)
  rintro e w1 ⟨rfl, hb⟩
  replace H := H.below hb
  clear hb
  go_wp2_with fail
  (with_reducible refine (rday_is a true _ D1.out).mono ?_)
  rintro e w2 ⟨rfl, hb⟩
  replace H := H.below hb
  clear hb
  go_wp2_with fail
  (with_reducible refine (rday_is a true _ D1.out).mono ?_)
  rintro e w3 ⟨rfl, hb⟩
  replace H := H.below hb
  clear hb
  go_wp2_with fail
  (with_reducible refine (K.by360 a a 0 q0 0 _ (H.facts (List.Mem.head _)) W0.out).mono ?_)
  rintro e w4 ⟨rfl, hb⟩
  replace H := H.below hb
  clear hb
  go_wp2_with fail
  replace H := (H.pair (w4.heap.size) (.int .i64 0) (.int .i64 q0) 24 rfl)
  (with_reducible refine (K.by365 a a 0 q1 0 _ (H.facts (List.Mem.tail _ (List.Mem.tail _ (List.Mem.tail _ (List.Mem.tail _ (List.Mem.head _)))))) W1.out).mono ?_)
  rintro e w5 ⟨rfl, hb⟩
  replace H := H.below hb
  clear hb
  go_wp2_with fail
  replace H := (H.pair (w5.heap.size) (.int .i64 0) (.int .i64 q1) 24 rfl)
  (with_reducible refine (K.byyears a a 0 q2 0 _ (H.facts (List.Mem.tail _ (List.Mem.tail _ (List.Mem.tail _ (List.Mem.tail _ (List.Mem.tail _ (List.Mem.tail _ (List.Mem.tail _ (List.Mem.tail _ (List.Mem.head _)))))))))) W2.out).mono ?_)
  rintro e w6 ⟨rfl, hb⟩
  replace H := H.below hb
  clear hb
  go_wp2_with fail
  replace H := (H.pair (w6.heap.size) (.int .i64 0) (.int .i64 q2) 24 rfl)
  (with_reducible refine (refnew8_is 0 366 p3 q3 0 _ (by omega) (by omega) (by decide) (by decide) HW.out).mono ?_)
  rintro e w7 ⟨rfl, hb⟩
  replace H := H.below hb
  clear hb
  have cv00 := H.cell (w4.heap.size) 0 (.int .i64 0) (List.Mem.tail _ (List.Mem.tail _ (List.Mem.tail _ (List.Mem.tail _ (List.Mem.tail _ (List.Mem.tail _ (List.Mem.tail _ (List.Mem.tail _ (List.Mem.head _)))))))))
  have cv01 := H.cell (w4.heap.size) 1 (.int .i64 q0) (List.Mem.tail _ (List.Mem.tail _ (List.Mem.tail _ (List.Mem.tail _ (List.Mem.tail _ (List.Mem.tail _ (List.Mem.tail _ (List.Mem.tail _ (List.Mem.tail _ (List.Mem.head _))))))))))
  have lv0 := H.lt (w4.heap.size) 0 (.int .i64 0) (List.Mem.tail _ (List.Mem.tail _ (List.Mem.tail _ (List.Mem.tail _ (List.Mem.tail _ (List.Mem.tail _ (List.Mem.tail _ (List.Mem.tail _ (List.Mem.head _)))))))))
  have cv10 := H.cell (w5.heap.size) 0 (.int .i64 0) (List.Mem.tail _ (List.Mem.tail _ (List.Mem.tail _ (List.Mem.tail _ (List.Mem.head _)))))
  have cv11 := H.cell (w5.heap.size) 1 (.int .i64 q1) (List.Mem.tail _ (List.Mem.tail _ (List.Mem.tail _ (List.Mem.tail _ (List.Mem.tail _ (List.Mem.head _))))))
  have lv1 := H.lt (w5.heap.size) 0 (.int .i64 0) (List.Mem.tail _ (List.Mem.tail _ (List.Mem.tail _ (List.Mem.tail _ (List.Mem.head _)))))
  go_wp2_with fail
  clear cv00 cv01 lv0 cv10 cv11 lv1
  replace H := (H.pair (w7.heap.size) (.int .i64 p3) (.int .i64 q3) 24 rfl)
  (with_reducible refine (refcmp8_is 0 q0 0 q1 c0 _ R0.out R1.out K0.out).mono ?_)
  rintro e w8 ⟨rfl, hb⟩
  replace H := H.below hb
  clear hb
  have cv10 := H.cell (w5.heap.size) 0 (.int .i64 0) (List.Mem.tail _ (List.Mem.tail _ (List.Mem.tail _ (List.Mem.tail _ (List.Mem.tail _ (List.Mem.tail _ (List.Mem.tail _ (List.Mem.tail _ (List.Mem.head _)))))))))
  have cv11 := H.cell (w5.heap.size) 1 (.int .i64 q1) (List.Mem.tail _ (List.Mem.tail _ (List.Mem.tail _ (List.Mem.tail _ (List.Mem.tail _ (List.Mem.tail _ (List.Mem.tail _ (List.Mem.tail _ (List.Mem.tail _ (List.Mem.head _))))))))))
  have lv1 := H.lt (w5.heap.size) 0 (.int .i64 0) (List.Mem.tail _ (List.Mem.tail _ (List.Mem.tail _ (List.Mem.tail _ (List.Mem.tail _ (List.Mem.tail _ (List.Mem.tail _ (List.Mem.tail _ (List.Mem.head _)))))))))
  have cv20 := H.cell (w6.heap.size) 0 (.int .i64 0) (List.Mem.tail _ (List.Mem.tail _ (List.Mem.tail _ (List.Mem.tail _ (List.Mem.head _)))))
  have cv21 := H.cell (w6.heap.size) 1 (.int .i64 q2) (List.Mem.tail _ (List.Mem.tail _ (List.Mem.tail _ (List.Mem.tail _ (List.Mem.tail _ (List.Mem.head _))))))
  have lv2 := H.lt (w6.heap.size) 0 (.int .i64 0) (List.Mem.tail _ (List.Mem.tail _ (List.Mem.tail _ (List.Mem.tail _ (List.Mem.head _)))))
  go_wp2_with fail
  clear cv10 cv11 lv1 cv20 cv21 lv2
  (with_reducible refine (refcmp8_is 0 q1 0 q2 c1 _ R1.out R2.out K1.out).mono ?_)
  rintro e w9 ⟨rfl, hb⟩
  replace H := H.below hb
  clear hb
  have cv20 := H.cell (w6.heap.size) 0 (.int .i64 0) (List.Mem.tail _ (List.Mem.tail _ (List.Mem.tail _ (List.Mem.tail _ (List.Mem.head _)))))
  have cv21 := H.cell (w6.heap.size) 1 (.int .i64 q2) (List.Mem.tail _ (List.Mem.tail _ (List.Mem.tail _ (List.Mem.tail _ (List.Mem.tail _ (List.Mem.head _))))))
  have lv2 := H.lt (w6.heap.size) 0 (.int .i64 0) (List.Mem.tail _ (List.Mem.tail _ (List.Mem.tail _ (List.Mem.tail _ (List.Mem.head _)))))
  have cv30 := H.cell (w7.heap.size) 0 (.int .i64 p3) (List.Mem.head _)
  have cv31 := H.cell (w7.heap.size) 1 (.int .i64 q3) (List.Mem.tail _ (List.Mem.head _))
  have lv3 := H.lt (w7.heap.size) 0 (.int .i64 p3) (List.Mem.head _)
  go_wp2_with fail
  clear cv20 cv21 lv2 cv30 cv31 lv3
  (with_reducible refine (refcmp8_is 0 q2 p3 q3 c2 _ R2.out R3.out K2.out).mono ?_)
  rintro e w10 ⟨rfl, hb⟩
  replace H := H.below hb
  clear hb
  have cv00 := H.cell (w4.heap.size) 0 (.int .i64 0) (List.Mem.tail _ (List.Mem.tail _ (List.Mem.tail _ (List.Mem.tail _ (List.Mem.tail _ (List.Mem.tail _ (List.Mem.tail _ (List.Mem.tail _ (List.Mem.tail _ (List.Mem.tail _ (List.Mem.tail _ (List.Mem.tail _ (List.Mem.head _)))))))))))))
  have cv01 := H.cell (w4.heap.size) 1 (.int .i64 q0) (List.Mem.tail _ (List.Mem.tail _ (List.Mem.tail _ (List.Mem.tail _ (List.Mem.tail _ (List.Mem.tail _ (List.Mem.tail _ (List.Mem.tail _ (List.Mem.tail _ (List.Mem.tail _ (List.Mem.tail _ (List.Mem.tail _ (List.Mem.tail _ (List.Mem.head _))))))))))))))
  have lv0 := H.lt (w4.heap.size) 0 (.int .i64 0) (List.Mem.tail _ (List.Mem.tail _ (List.Mem.tail _ (List.Mem.tail _ (List.Mem.tail _ (List.Mem.tail _ (List.Mem.tail _ (List.Mem.tail _ (List.Mem.tail _ (List.Mem.tail _ (List.Mem.tail _ (List.Mem.tail _ (List.Mem.head _)))))))))))))
  have cv10 := H.cell (w5.heap.size) 0 (.int .i64 0) (List.Mem.tail _ (List.Mem.tail _ (List.Mem.tail _ (List.Mem.tail _ (List.Mem.tail _ (List.Mem.tail _ (List.Mem.tail _ (List.Mem.tail _ (List.Mem.head _)))))))))
  have cv11 := H.cell (w5.heap.size) 1 (.int .i64 q1) (List.Mem.tail _ (List.Mem.tail _ (List.Mem.tail _ (List.Mem.tail _ (List.Mem.tail _ (List.Mem.tail _ (List.Mem.tail _ (List.Mem.tail _ (List.Mem.tail _ (List.Mem.head _))))))))))
  have lv1 := H.lt (w5.heap.size) 0 (.int .i64 0) (List.Mem.tail _ (List.Mem.tail _ (List.Mem.tail _ (List.Mem.tail _ (List.Mem.tail _ (List.Mem.tail _ (List.Mem.tail _ (List.Mem.tail _ (List.Mem.head _)))))))))
  have cv20 := H.cell (w6.heap.size) 0 (.int .i64 0) (List.Mem.tail _ (List.Mem.tail _ (List.Mem.tail _ (List.Mem.tail _ (List.Mem.head _)))))
  have cv21 := H.cell (w6.heap.size) 1 (.int .i64 q2) (List.Mem.tail _ (List.Mem.tail _ (List.Mem.tail _ (List.Mem.tail _ (List.Mem.tail _ (List.Mem.head _))))))
  have lv2 := H.lt (w6.heap.size) 0 (.int .i64 0) (List.Mem.tail _ (List.Mem.tail _ (List.Mem.tail _ (List.Mem.tail _ (List.Mem.head _)))))
  go_wp2_with fail
  clear cv00 cv01 lv0 cv10 cv11 lv1 cv20 cv21 lv2
  go_ret
  exact ⟨rfl, H.old⟩

set_option maxHeartbeats 4000000 in
set_option maxRecDepth 100000 in
theorem abetween_lt (K : Ways) (a b p0 q0 p1 q1 p2 q2 p3 q3 c0 c1 c2 : Int) (w : World) (hL : Facts w) (h1 : 1 ≤ a ∧ a ≤ 3652059) (h2 : 1 ≤ b ∧ b ≤ 3652059) (g : a < b) (w0 : AcIs aX 360 a b p0 q0 0) (r0 : rightB p0 q0 = true) (z0 : 0 ≤ p0 ∧ p0 ≤ 4000000000 ∧ 1 ≤ q0 ∧ q0 ≤ 200000) (w1 : AcIs aX 365 a b p1 q1 0) (r1 : rightB p1 q1 = true) (z1 : 0 ≤ p1 ∧ p1 ≤ 4000000000 ∧ 1 ≤ q1 ∧ q1 ≤ 200000) (w2 : AcIs yX 133590 a b p2 q2 0) (r2 : rightB p2 q2 = true) (z2 : 0 ≤ p2 ∧ p2 ≤ 4000000000 ∧ 1 ≤ q2 ∧ q2 ≤ 200000) (hw : rN (b - a) 366 = p3 ∧ rD (b - a) 366 = q3 ∧ rE (b - a) 366 = 0) (r3 : rightB p3 q3 = true) (k0 : cmpI (p0 * q1) (p1 * q0) = c0) (k1 : cmpI (p1 * q2) (p2 * q1) = c1) (k2 : cmpI (p2 * q3) (p3 * q2) = c2) (n0 : 0 ≤ c0) (n1 : 0 ≤ c1) (n2 : 0 ≤ c2) (e2 : 0 < p2) (e0 : 0 < p0) (x0 : p0 * 360 = (b - a) * q0) (x1 : p1 * 365 = (b - a) * q1) :
    Calls Tryd.prog 6 #[.int .i64 a, .int .i64 b] w fun e w' => e = .returned (.bool true) ∧ Below w.heap.size w w' := by
  have H := (Held.start w).add (f := factsF) hL
  clear hL
  have D1 : Hid (decide (1 ≤ a ∧ a ≤ 3652059) = true) := Lib.hid (by rw [decide_eq_true_eq]; exact h1)
  have D2 : Hid (decide (1 ≤ b ∧ b ≤ 3652059) = true) := Lib.hid (by rw [decide_eq_true_eq]; exact h2)
  have W0 := Lib.hid w0
  have R0 := Lib.hid r0
  clear w0 r0
  have W1 := Lib.hid w1
  have R1 := Lib.hid r1
  clear w1 r1
  have W2 := Lib.hid w2
  have R2 := Lib.hid r2
  clear w2 r2
  have HW := Lib.hid hw
  have R3 := Lib.hid r3
  have K0 := Lib.hid k0
  have K1 := Lib.hid k1
  have K2 := Lib.hid k2
  clear hw r3 k0 k1 k2
  have y0 : (b - a) * q0 = p0 * 360 := x0.symm
  have y1 : (b - a) * q1 = p1 * 365 := x1.symm
  clear x0 x1
  have t2 : (p2 == 0) = false := by simp; omega
  have t0 : (p0 == 0) = false := by simp; omega
  have tb : (a == b) = false := by simp; omega
  go_enter Tryd.func6, Tryd.ntmps6
  go_wp2_with fail
  (with_reducible refine (ashown_any K _ (H.facts (List.Mem.head _))).mono ?_)
  rintro e w1 ⟨rfl, hb⟩
  replace H := H.below hb
  clear hb
  go_wp2_with fail
  (with_reducible refine (rday_is a true _ D1.out).mono ?_)
  rintro e w2 ⟨rfl, hb⟩
  replace H := H.below hb
  clear hb
  go_wp2_with fail
  (with_reducible refine (rday_is b true _ D2.out).mono ?_)
  rintro e w3 ⟨rfl, hb⟩
  replace H := H.below hb
  clear hb
  go_wp2_with fail
  (with_reducible refine (K.by360 a b p0 q0 0 _ (H.facts (List.Mem.head _)) W0.out).mono ?_)
  rintro e w4 ⟨rfl, hb⟩
  replace H := H.below hb
  clear hb
  go_wp2_with fail
  replace H := (H.pair (w4.heap.size) (.int .i64 p0) (.int .i64 q0) 24 rfl)
  (with_reducible refine (K.by365 a b p1 q1 0 _ (H.facts (List.Mem.tail _ (List.Mem.tail _ (List.Mem.tail _ (List.Mem.tail _ (List.Mem.head _)))))) W1.out).mono ?_)
  rintro e w5 ⟨rfl, hb⟩
  replace H := H.below hb
  clear hb
  go_wp2_with fail
  replace H := (H.pair (w5.heap.size) (.int .i64 p1) (.int .i64 q1) 24 rfl)
  (with_reducible refine (K.byyears a b p2 q2 0 _ (H.facts (List.Mem.tail _ (List.Mem.tail _ (List.Mem.tail _ (List.Mem.tail _ (List.Mem.tail _ (List.Mem.tail _ (List.Mem.tail _ (List.Mem.tail _ (List.Mem.head _)))))))))) W2.out).mono ?_)
  rintro e w6 ⟨rfl, hb⟩
  replace H := H.below hb
  clear hb
  go_wp2_with fail
  replace H := (H.pair (w6.heap.size) (.int .i64 p2) (.int .i64 q2) 24 rfl)
  (with_reducible refine (refnew8_is (b - a) 366 p3 q3 0 _ (by omega) (by omega) (by decide) (by decide) HW.out).mono ?_)
  rintro e w7 ⟨rfl, hb⟩
  replace H := H.below hb
  clear hb
  have cv00 := H.cell (w4.heap.size) 0 (.int .i64 p0) (List.Mem.tail _ (List.Mem.tail _ (List.Mem.tail _ (List.Mem.tail _ (List.Mem.tail _ (List.Mem.tail _ (List.Mem.tail _ (List.Mem.tail _ (List.Mem.head _)))))))))
  have cv01 := H.cell (w4.heap.size) 1 (.int .i64 q0) (List.Mem.tail _ (List.Mem.tail _ (List.Mem.tail _ (List.Mem.tail _ (List.Mem.tail _ (List.Mem.tail _ (List.Mem.tail _ (List.Mem.tail _ (List.Mem.tail _ (List.Mem.head _))))))))))
  have lv0 := H.lt (w4.heap.size) 0 (.int .i64 p0) (List.Mem.tail _ (List.Mem.tail _ (List.Mem.tail _ (List.Mem.tail _ (List.Mem.tail _ (List.Mem.tail _ (List.Mem.tail _ (List.Mem.tail _ (List.Mem.head _)))))))))
  have cv10 := H.cell (w5.heap.size) 0 (.int .i64 p1) (List.Mem.tail _ (List.Mem.tail _ (List.Mem.tail _ (List.Mem.tail _ (List.Mem.head _)))))
  have cv11 := H.cell (w5.heap.size) 1 (.int .i64 q1) (List.Mem.tail _ (List.Mem.tail _ (List.Mem.tail _ (List.Mem.tail _ (List.Mem.tail _ (List.Mem.head _))))))
  have lv1 := H.lt (w5.heap.size) 0 (.int .i64 p1) (List.Mem.tail _ (List.Mem.tail _ (List.Mem.tail _ (List.Mem.tail _ (List.Mem.head _)))))
  go_wp2_with fail
  clear cv00 cv01 lv0 cv10 cv11 lv1
  replace H := (H.pair (w7.heap.size) (.int .i64 p3) (.int .i64 q3) 24 rfl)
  (with_reducible refine (refcmp8_is p0 q0 p1 q1 c0 _ R0.out R1.out K0.out).mono ?_)
  rintro e w8 ⟨rfl, hb⟩
  replace H := H.below hb
  clear hb
  have cv10 := H.cell (w5.heap.size) 0 (.int .i64 p1) (List.Mem.tail _ (List.Mem.tail _ (List.Mem.tail _ (List.Mem.tail _ (List.Mem.tail _ (List.Mem.tail _ (List.Mem.tail _ (List.Mem.tail _ (List.Mem.head _)))))))))
  have cv11 := H.cell (w5.heap.size) 1 (.int .i64 q1) (List.Mem.tail _ (List.Mem.tail _ (List.Mem.tail _ (List.Mem.tail _ (List.Mem.tail _ (List.Mem.tail _ (List.Mem.tail _ (List.Mem.tail _ (List.Mem.tail _ (List.Mem.head _))))))))))
  have lv1 := H.lt (w5.heap.size) 0 (.int .i64 p1) (List.Mem.tail _ (List.Mem.tail _ (List.Mem.tail _ (List.Mem.tail _ (List.Mem.tail _ (List.Mem.tail _ (List.Mem.tail _ (List.Mem.tail _ (List.Mem.head _)))))))))
  have cv20 := H.cell (w6.heap.size) 0 (.int .i64 p2) (List.Mem.tail _ (List.Mem.tail _ (List.Mem.tail _ (List.Mem.tail _ (List.Mem.head _)))))
  have cv21 := H.cell (w6.heap.size) 1 (.int .i64 q2) (List.Mem.tail _ (List.Mem.tail _ (List.Mem.tail _ (List.Mem.tail _ (List.Mem.tail _ (List.Mem.head _))))))
  have lv2 := H.lt (w6.heap.size) 0 (.int .i64 p2) (List.Mem.tail _ (List.Mem.tail _ (List.Mem.tail _ (List.Mem.tail _ (List.Mem.head _)))))
  go_wp2_with fail
  clear cv10 cv11 lv1 cv20 cv21 lv2
  (with_reducible refine (refcmp8_is p1 q1 p2 q2 c1 _ R1.out R2.out K1.out).mono ?_)
  rintro e w9 ⟨rfl, hb⟩
  replace H := H.below hb
  clear hb
  have cv20 := H.cell (w6.heap.size) 0 (.int .i64 p2) (List.Mem.tail _ (List.Mem.tail _ (List.Mem.tail _ (List.Mem.tail _ (List.Mem.head _)))))
  have cv21 := H.cell (w6.heap.size) 1 (.int .i64 q2) (List.Mem.tail _ (List.Mem.tail _ (List.Mem.tail _ (List.Mem.tail _ (List.Mem.tail _ (List.Mem.head _))))))
  have lv2 := H.lt (w6.heap.size) 0 (.int .i64 p2) (List.Mem.tail _ (List.Mem.tail _ (List.Mem.tail _ (List.Mem.tail _ (List.Mem.head _)))))
  have cv30 := H.cell (w7.heap.size) 0 (.int .i64 p3) (List.Mem.head _)
  have cv31 := H.cell (w7.heap.size) 1 (.int .i64 q3) (List.Mem.tail _ (List.Mem.head _))
  have lv3 := H.lt (w7.heap.size) 0 (.int .i64 p3) (List.Mem.head _)
  go_wp2_with fail
  clear cv20 cv21 lv2 cv30 cv31 lv3
  (with_reducible refine (refcmp8_is p2 q2 p3 q3 c2 _ R2.out R3.out K2.out).mono ?_)
  rintro e w10 ⟨rfl, hb⟩
  replace H := H.below hb
  clear hb
  have cv00 := H.cell (w4.heap.size) 0 (.int .i64 p0) (List.Mem.tail _ (List.Mem.tail _ (List.Mem.tail _ (List.Mem.tail _ (List.Mem.tail _ (List.Mem.tail _ (List.Mem.tail _ (List.Mem.tail _ (List.Mem.tail _ (List.Mem.tail _ (List.Mem.tail _ (List.Mem.tail _ (List.Mem.head _)))))))))))))
  have cv01 := H.cell (w4.heap.size) 1 (.int .i64 q0) (List.Mem.tail _ (List.Mem.tail _ (List.Mem.tail _ (List.Mem.tail _ (List.Mem.tail _ (List.Mem.tail _ (List.Mem.tail _ (List.Mem.tail _ (List.Mem.tail _ (List.Mem.tail _ (List.Mem.tail _ (List.Mem.tail _ (List.Mem.tail _ (List.Mem.head _))))))))))))))
  have lv0 := H.lt (w4.heap.size) 0 (.int .i64 p0) (List.Mem.tail _ (List.Mem.tail _ (List.Mem.tail _ (List.Mem.tail _ (List.Mem.tail _ (List.Mem.tail _ (List.Mem.tail _ (List.Mem.tail _ (List.Mem.tail _ (List.Mem.tail _ (List.Mem.tail _ (List.Mem.tail _ (List.Mem.head _)))))))))))))
  have cv10 := H.cell (w5.heap.size) 0 (.int .i64 p1) (List.Mem.tail _ (List.Mem.tail _ (List.Mem.tail _ (List.Mem.tail _ (List.Mem.tail _ (List.Mem.tail _ (List.Mem.tail _ (List.Mem.tail _ (List.Mem.head _)))))))))
  have cv11 := H.cell (w5.heap.size) 1 (.int .i64 q1) (List.Mem.tail _ (List.Mem.tail _ (List.Mem.tail _ (List.Mem.tail _ (List.Mem.tail _ (List.Mem.tail _ (List.Mem.tail _ (List.Mem.tail _ (List.Mem.tail _ (List.Mem.head _))))))))))
  have lv1 := H.lt (w5.heap.size) 0 (.int .i64 p1) (List.Mem.tail _ (List.Mem.tail _ (List.Mem.tail _ (List.Mem.tail _ (List.Mem.tail _ (List.Mem.tail _ (List.Mem.tail _ (List.Mem.tail _ (List.Mem.head _)))))))))
  have cv20 := H.cell (w6.heap.size) 0 (.int .i64 p2) (List.Mem.tail _ (List.Mem.tail _ (List.Mem.tail _ (List.Mem.tail _ (List.Mem.head _)))))
  have cv21 := H.cell (w6.heap.size) 1 (.int .i64 q2) (List.Mem.tail _ (List.Mem.tail _ (List.Mem.tail _ (List.Mem.tail _ (List.Mem.tail _ (List.Mem.head _))))))
  have lv2 := H.lt (w6.heap.size) 0 (.int .i64 p2) (List.Mem.tail _ (List.Mem.tail _ (List.Mem.tail _ (List.Mem.tail _ (List.Mem.head _)))))
  go_wp2_with fail
  clear cv00 cv01 lv0 cv10 cv11 lv1 cv20 cv21 lv2
  go_ret
  exact ⟨rfl, H.old⟩

theorem abetween_walk (K : Ways) (a b : Int) (w : World) (hL : Facts w) (ha : -9223372036854775808 ≤ a ∧ a < 9223372036854775808) (hb : -9223372036854775808 ≤ b ∧ b < 9223372036854775808) :
    Calls Tryd.prog 6 #[.int .i64 a, .int .i64 b] w fun e w' => e = .returned (.bool true) ∧ Below w.heap.size w w' := by
  by_cases h1 : a < 1 ∨ 3652059 < a
  · exact abetween_a K a b w hL h1
  by_cases h2 : b < 1 ∨ 3652059 < b
  · exact abetween_b K a b w hL (by omega) h2
  have R1 : 1 ≤ a ∧ a ≤ 3652059 := by omega
  have R2 : 1 ≤ b ∧ b ≤ 3652059 := by omega
  by_cases h4 : a > b
  · exact abetween_gt K a b w hL R1 R2 h4
  obtain ⟨y1, m1, d1, a1, a2⟩ := day_of a R1.1 R1.2
  obtain ⟨y2, m2, d2, b1, b2⟩ := day_of b R2.1 R2.2
  have e1 := yX_bd _ _ _ _ _ _ a1 b1 (by omega)
  obtain ⟨x, hx⟩ : ∃ x, yX y1 m1 d1 y2 m2 d2 = x := ⟨_, rfl⟩
  rw [hx, a2, b2] at e1
  have w0 := ac_days a b 360 R1 R2 (by omega)
  have w1 := ac_days a b 365 R1 R2 (by omega)
  have w2 := ac_years y1 m1 d1 y2 m2 d2 x a1 a2 b1 b2 (by omega) hx
  have r0 := ac_right (b - a) 360 (by omega) (by omega) (by decide) (by decide)
  have r1 := ac_right (b - a) 365 (by omega) (by omega) (by decide) (by decide)
  have r2 := ac_right x 133590 (by omega) (by omega) (by decide) (by decide)
  have r3 := ac_right (b - a) 366 (by omega) (by omega) (by decide) (by decide)
  have z0 := ac_zero (b - a) 360 (by omega) (by omega) (by decide) (by decide)
  have z1 := ac_zero (b - a) 365 (by omega) (by omega) (by decide) (by decide)
  have z2 := ac_zero x 133590 (by omega) (by omega) (by decide) (by decide)
  have f3 := (r_yes (fit_den (b - a) 366 (by omega) (by omega) (by decide) (by decide))).2.2
  have n0 := ac_cmp (b - a) 360 (b - a) 365 (by omega) (by omega) (by omega) (by omega) (by decide) (by decide) (by decide) (by decide) (by omega)
  have n1 := ac_cmp (b - a) 365 x 133590 (by omega) (by omega) (by omega) (by omega) (by decide) (by decide) (by decide) (by decide) (by omega)
  have n2 := ac_cmp x 133590 (b - a) 366 (by omega) (by omega) (by omega) (by omega) (by decide) (by decide) (by decide) (by decide) (by omega)
  by_cases h5 : a = b
  · have F3 : rN 0 366 = rN (b - a) 366 ∧ rD 0 366 = rD (b - a) 366 ∧ rE 0 366 = 0 := by
      have z : b - a = 0 := by omega
      rw [z] at f3 ⊢
      exact ⟨rfl, rfl, f3⟩
    exact abetween_eq K a b _ _ _ _ _ _ _ _ _ _ _ w hL R1 R2 h5 w0 r0 (by omega) w1 r1 (by omega) w2 r2 (by omega) F3 r3 rfl rfl rfl n0 n1 n2 (z2.1 (by omega)) (z0.1 (by omega)) (z1.1 (by omega))
  · exact abetween_lt K a b _ _ _ _ _ _ _ _ _ _ _ w hL R1 R2 (by omega) w0 r0 (by omega) w1 r1 (by omega) w2 r2 (by omega) ⟨rfl, rfl, f3⟩ r3 rfl rfl rfl n0 n1 n2 (z2.2.1 (by omega)) (z0.2.1 (by omega)) z0.2.2.1 z1.2.2.1
end Go.Proofs.YtobdimekjhdefaaDoor
