/- The reference of layer 8: By360, By365, ByYears. -/
import Derived.Test.YtobdimekjhdefaaDoorAcRef
namespace Go.Proofs.YtobdimekjhdefaaDoor
open Go.RowKit
set_option linter.unusedVariables false
set_option linter.unusedSimpArgs false

theorem refnew8_is (n d p q c : Int) (w : World) (n0 : 0 ≤ n) (n1 : n < 9223372036854775808) (d0 : 0 < d) (d1 : d < 9223372036854775808) (h : rN n d = p ∧ rD n d = q ∧ rE n d = c) :
    Calls Tryd.prog 19 #[.int .i64 n, .int .i64 d] w fun e w' => e = .returned (.tuple #[.agg #[.int .i64 p, .int .i64 q], .int .i64 c]) ∧ Below w.heap.size w w' := by
  obtain ⟨rfl, rfl, rfl⟩ := h; exact refnew_any n d w n0 n1 d0 d1
theorem refadd8_is (an ad bn bd p q c : Int) (w : World) (ha : rightB an ad = true) (hb : rightB bn bd = true) (h : rN (an * bd + bn * ad) (ad * bd) = p ∧ rD (an * bd + bn * ad) (ad * bd) = q ∧ rE (an * bd + bn * ad) (ad * bd) = c) :
    Calls Tryd.prog 16 #[.agg #[.int .i64 an, .int .i64 ad], .agg #[.int .i64 bn, .int .i64 bd]] w fun e w' => e = .returned (.tuple #[.agg #[.int .i64 p, .int .i64 q], .int .i64 c]) ∧ Below w.heap.size w w' := by
  obtain ⟨rfl, rfl, rfl⟩ := h; exact refadd_any an ad bn bd w ha hb
theorem fit_den (x k : Int) (h0 : 0 ≤ x) (h : x ≤ 4000000000) (k0 : 0 < k) (k1 : k ≤ 200000) : fitB x k = true := by
  rw [fit_iff]
  have := m_le x k h0 (by omega)
  omega
/-- What is told of two days, by a number of parts of one. -/
def AcIs (X : Int → Int → Int → Int → Int → Int → Int) (k a b p q c : Int) : Prop :=
  (∃ y1 m1 d1 y2 m2 d2 : Int, may y1 m1 d1 ∧ nb y1 m1 d1 = a ∧ may y2 m2 d2 ∧ nb y2 m2 d2 = b ∧ a ≤ b ∧ rN (X y1 m1 d1 y2 m2 d2) k = p ∧ rD (X y1 m1 d1 y2 m2 d2) k = q ∧ c = 0)
  ∨ (((a < 1 ∨ 3652059 < a) ∨ (b < 1 ∨ 3652059 < b)) ∧ p = 0 ∧ q = 0 ∧ c = 3)
  ∨ ((1 ≤ a ∧ a ≤ 3652059) ∧ (1 ≤ b ∧ b ≤ 3652059) ∧ b < a ∧ p = 0 ∧ q = 0 ∧ c = 4)
def aX (y1 m1 d1 y2 m2 d2 : Int) : Int := nb y2 m2 d2 - nb y1 m1 d1
/-- The days in leap years. -/
def inX (y1 m1 d1 y2 m2 d2 : Int) : Int := lv y2 m2 d2 - lv y1 m1 d1
def yX (y1 m1 d1 y2 m2 d2 : Int) : Int := 365 * inX y1 m1 d1 y2 m2 d2 + 366 * (nb y2 m2 d2 - nb y1 m1 d1 - inX y1 m1 d1 y2 m2 d2)
theorem years_sum (i r : Int) (i0 : 0 ≤ i) (i1 : i ≤ 3700000) (r0 : 0 ≤ r) (r1 : r ≤ 3700000) :
    rightB (rN i 366) (rD i 366) = true ∧ rightB (rN r 365) (rD r 365) = true ∧
    rN (rN i 366 * rD r 365 + rN r 365 * rD i 366) (rD i 366 * rD r 365) = rN (365 * i + 366 * r) 133590 ∧
    rD (rN i 366 * rD r 365 + rN r 365 * rD i 366) (rD i 366 * rD r 365) = rD (365 * i + 366 * r) 133590 ∧
    rE (rN i 366 * rD r 365 + rN r 365 * rD i 366) (rD i 366 * rD r 365) = 0 := by
  have fa := fit_den i 366 i0 (by omega) (by decide) (by decide)
  have fb := fit_den r 365 r0 (by omega) (by decide) (by decide)
  have a := r_yes fa
  have b := r_yes fb
  rw [a.1, a.2.1, b.1, b.2.1]
  have c1 := m_cross i 366
  have c2 := m_cross r 365
  have p1 := mD_pos i 366 (by decide)
  have p2 := mD_pos r 365 (by decide)
  have e : (mN i 366 * mD r 365 + mN r 365 * mD i 366) * 133590 = (365 * i + 366 * r) * (mD i 366 * mD r 365) := by grind
  have k := r_eq (Int.mul_pos p1 p2) (show (0 : Int) < 133590 by decide) e
  exact ⟨r_right i0 (by decide) fa, r_right r0 (by decide) fb, k.1, k.2.1, k.2.2.trans (r_yes (fit_den (365 * i + 366 * r) 133590 (by omega) (by omega) (by decide) (by decide))).2.2⟩

set_option maxHeartbeats 1000000 in
theorem rby360_in (a b p q : Int) (w : World) (ha : 1 ≤ a ∧ a ≤ 3652059) (hb : 1 ≤ b ∧ b ≤ 3652059) (hab : a ≤ b) (hp : rN (b - a) 360 = p) (hq : rD (b - a) 360 = q) :
    Calls Tryd.prog 10 #[.int .i64 a, .int .i64 b] w fun e' w' => e' = .returned (.tuple #[.agg #[.int .i64 p, .int .i64 q], .int .i64 0]) ∧ Below w.heap.size w w' := by
  have H := Held.start w
  have W1 : Hid (WhyIs a b 0) := Lib.hid (Or.inr (Or.inr ⟨ha, hb, hab, rfl⟩))
  have N1 : Hid (rN (b - a) 360 = p ∧ rD (b - a) 360 = q ∧ rE (b - a) 360 = 0) := Lib.hid ⟨hp, hq, (r_yes (fit_den (b - a) 360 (by omega) (by omega) (by decide) (by decide))).2.2⟩
  clear hp hq
  go_enter Tryd.func10, Tryd.ntmps10
  go_wp2_with fail
  replace H := (H.pair (w.heap.size) (.int .i64 0) (.int .i64 0) 24 rfl)
  (with_reducible refine (rwhy_any a b 0 _ W1.out).mono ?_)
  rintro e w1 ⟨rfl, hb⟩
  replace H := H.below hb
  clear hb
  go_wp2_with fail
  (with_reducible refine (refnew8_is (b - a) 360 p q 0 _ (by omega) (by omega) (by decide) (by decide) N1.out).mono ?_)
  rintro e w2 ⟨rfl, hb⟩
  replace H := H.below hb
  clear hb
  have cz0 := H.cell (w.heap.size) 0 (.int .i64 0) (List.Mem.head _)
  have cz1 := H.cell (w.heap.size) 1 (.int .i64 0) (List.Mem.tail _ (List.Mem.head _))
  have lz := H.lt (w.heap.size) 0 (.int .i64 0) (List.Mem.head _)
  have fz0 := H.frozen (w.heap.size) 0 (List.Mem.tail _ (List.Mem.tail _ (List.Mem.head _)))
  have fz1 := H.frozen (w.heap.size) 1 (List.Mem.tail _ (List.Mem.tail _ (List.Mem.tail _ (List.Mem.head _))))
  have HK := H.old
  clear H
  go_wp2_with fail
  exact bodyPost_ret (v := .tuple #[.agg #[.int .i64 p, .int .i64 q], .int .i64 0]) (by simp [results, Tryd.results10, go_sem, cz0, cz1]) rfl ⟨rfl, (HK.setCell (by simp <;> omega) _).setCell (by simp <;> omega) _⟩

set_option maxHeartbeats 1000000 in
theorem rby360_day (a b : Int) (w : World) (h : (a < 1 ∨ 3652059 < a) ∨ (b < 1 ∨ 3652059 < b)) :
    Calls Tryd.prog 10 #[.int .i64 a, .int .i64 b] w fun e' w' => e' = .returned (.tuple #[.agg #[.int .i64 0, .int .i64 0], .int .i64 3]) ∧ Below w.heap.size w w' := by
  have H := Held.start w
  have W1 : Hid (WhyIs a b 3) := Lib.hid (Or.inl ⟨h, rfl⟩)
  go_enter Tryd.func10, Tryd.ntmps10
  go_wp2_with fail
  replace H := (H.pair (w.heap.size) (.int .i64 0) (.int .i64 0) 24 rfl)
  (with_reducible refine (rwhy_any a b 3 _ W1.out).mono ?_)
  rintro e w1 ⟨rfl, hb⟩
  replace H := H.below hb
  clear hb
  have cz0 := H.cell (w.heap.size) 0 (.int .i64 0) (List.Mem.head _)
  have cz1 := H.cell (w.heap.size) 1 (.int .i64 0) (List.Mem.tail _ (List.Mem.head _))
  have lz := H.lt (w.heap.size) 0 (.int .i64 0) (List.Mem.head _)
  have fz0 := H.frozen (w.heap.size) 0 (List.Mem.tail _ (List.Mem.tail _ (List.Mem.head _)))
  have fz1 := H.frozen (w.heap.size) 1 (List.Mem.tail _ (List.Mem.tail _ (List.Mem.tail _ (List.Mem.head _))))
  have HK := H.old
  clear H
  go_wp2_with fail
  exact bodyPost_ret (v := .tuple #[.agg #[.int .i64 0, .int .i64 0], .int .i64 3]) (by simp [results, Tryd.results10, go_sem, cz0, cz1]) rfl ⟨rfl, (HK.setCell (by simp <;> omega) _).setCell (by simp <;> omega) _⟩

set_option maxHeartbeats 1000000 in
theorem rby360_order (a b : Int) (w : World) (h1 : 1 ≤ a ∧ a ≤ 3652059) (h2 : 1 ≤ b ∧ b ≤ 3652059) (h : b < a) :
    Calls Tryd.prog 10 #[.int .i64 a, .int .i64 b] w fun e' w' => e' = .returned (.tuple #[.agg #[.int .i64 0, .int .i64 0], .int .i64 4]) ∧ Below w.heap.size w w' := by
  have H := Held.start w
  have W1 : Hid (WhyIs a b 4) := Lib.hid (Or.inr (Or.inl ⟨h1, h2, h, rfl⟩))
  go_enter Tryd.func10, Tryd.ntmps10
  go_wp2_with fail
  replace H := (H.pair (w.heap.size) (.int .i64 0) (.int .i64 0) 24 rfl)
  (with_reducible refine (rwhy_any a b 4 _ W1.out).mono ?_)
  rintro e w1 ⟨rfl, hb⟩
  replace H := H.below hb
  clear hb
  have cz0 := H.cell (w.heap.size) 0 (.int .i64 0) (List.Mem.head _)
  have cz1 := H.cell (w.heap.size) 1 (.int .i64 0) (List.Mem.tail _ (List.Mem.head _))
  have lz := H.lt (w.heap.size) 0 (.int .i64 0) (List.Mem.head _)
  have fz0 := H.frozen (w.heap.size) 0 (List.Mem.tail _ (List.Mem.tail _ (List.Mem.head _)))
  have fz1 := H.frozen (w.heap.size) 1 (List.Mem.tail _ (List.Mem.tail _ (List.Mem.tail _ (List.Mem.head _))))
  have HK := H.old
  clear H
  go_wp2_with fail
  exact bodyPost_ret (v := .tuple #[.agg #[.int .i64 0, .int .i64 0], .int .i64 4]) (by simp [results, Tryd.results10, go_sem, cz0, cz1]) rfl ⟨rfl, (HK.setCell (by simp <;> omega) _).setCell (by simp <;> omega) _⟩

theorem rby360_any (a b p q c : Int) (w : World) (h : AcIs aX 360 a b p q c) : Calls Tryd.prog 10 #[.int .i64 a, .int .i64 b] w fun e' w' => e' = .returned (.tuple #[.agg #[.int .i64 p, .int .i64 q], .int .i64 c]) ∧ Below w.heap.size w w' := by
  rcases h with ⟨y1, m1, d1, y2, m2, d2, h1, ha, h2, hb, hab, hp, hq, rfl⟩ | ⟨h, rfl, rfl, rfl⟩ | ⟨h1, h2, h, rfl, rfl, rfl⟩
  · have b1 := nb_bd _ _ _ h1
    have b2 := nb_bd _ _ _ h2
    unfold aX at hp hq
    rw [ha] at b1 hp hq
    rw [hb] at b2 hp hq
    exact rby360_in a b p q w b1 b2 hab hp hq
  · exact rby360_day a b w h
  · exact rby360_order a b w h1 h2 h

set_option maxHeartbeats 1000000 in
theorem rby365_in (a b p q : Int) (w : World) (ha : 1 ≤ a ∧ a ≤ 3652059) (hb : 1 ≤ b ∧ b ≤ 3652059) (hab : a ≤ b) (hp : rN (b - a) 365 = p) (hq : rD (b - a) 365 = q) :
    Calls Tryd.prog 12 #[.int .i64 a, .int .i64 b] w fun e' w' => e' = .returned (.tuple #[.agg #[.int .i64 p, .int .i64 q], .int .i64 0]) ∧ Below w.heap.size w w' := by
  have H := Held.start w
  have W1 : Hid (WhyIs a b 0) := Lib.hid (Or.inr (Or.inr ⟨ha, hb, hab, rfl⟩))
  have N1 : Hid (rN (b - a) 365 = p ∧ rD (b - a) 365 = q ∧ rE (b - a) 365 = 0) := Lib.hid ⟨hp, hq, (r_yes (fit_den (b - a) 365 (by omega) (by omega) (by decide) (by decide))).2.2⟩
  clear hp hq
  go_enter Tryd.func12, Tryd.ntmps12
  go_wp2_with fail
  replace H := (H.pair (w.heap.size) (.int .i64 0) (.int .i64 0) 24 rfl)
  (with_reducible refine (rwhy_any a b 0 _ W1.out).mono ?_)
  rintro e w1 ⟨rfl, hb⟩
  replace H := H.below hb
  clear hb
  go_wp2_with fail
  (with_reducible refine (refnew8_is (b - a) 365 p q 0 _ (by omega) (by omega) (by decide) (by decide) N1.out).mono ?_)
  rintro e w2 ⟨rfl, hb⟩
  replace H := H.below hb
  clear hb
  have cz0 := H.cell (w.heap.size) 0 (.int .i64 0) (List.Mem.head _)
  have cz1 := H.cell (w.heap.size) 1 (.int .i64 0) (List.Mem.tail _ (List.Mem.head _))
  have lz := H.lt (w.heap.size) 0 (.int .i64 0) (List.Mem.head _)
  have fz0 := H.frozen (w.heap.size) 0 (List.Mem.tail _ (List.Mem.tail _ (List.Mem.head _)))
  have fz1 := H.frozen (w.heap.size) 1 (List.Mem.tail _ (List.Mem.tail _ (List.Mem.tail _ (List.Mem.head _))))
  have HK := H.old
  clear H
  go_wp2_with fail
  exact bodyPost_ret (v := .tuple #[.agg #[.int .i64 p, .int .i64 q], .int .i64 0]) (by simp [results, Tryd.results12, go_sem, cz0, cz1]) rfl ⟨rfl, (HK.setCell (by simp <;> omega) _).setCell (by simp <;> omega) _⟩

set_option maxHeartbeats 1000000 in
theorem rby365_day (a b : Int) (w : World) (h : (a < 1 ∨ 3652059 < a) ∨ (b < 1 ∨ 3652059 < b)) :
    Calls Tryd.prog 12 #[.int .i64 a, .int .i64 b] w fun e' w' => e' = .returned (.tuple #[.agg #[.int .i64 0, .int .i64 0], .int .i64 3]) ∧ Below w.heap.size w w' := by
  have H := Held.start w
  have W1 : Hid (WhyIs a b 3) := Lib.hid (Or.inl ⟨h, rfl⟩)
  go_enter Tryd.func12, Tryd.ntmps12
  go_wp2_with fail
  replace H := (H.pair (w.heap.size) (.int .i64 0) (.int .i64 0) 24 rfl)
  (with_reducible refine (rwhy_any a b 3 _ W1.out).mono ?_)
  rintro e w1 ⟨rfl, hb⟩
  replace H := H.below hb
  clear hb
  have cz0 := H.cell (w.heap.size) 0 (.int .i64 0) (List.Mem.head _)
  have cz1 := H.cell (w.heap.size) 1 (.int .i64 0) (List.Mem.tail _ (List.Mem.head _))
  have lz := H.lt (w.heap.size) 0 (.int .i64 0) (List.Mem.head _)
  have fz0 := H.frozen (w.heap.size) 0 (List.Mem.tail _ (List.Mem.tail _ (List.Mem.head _)))
  have fz1 := H.frozen (w.heap.size) 1 (List.Mem.tail _ (List.Mem.tail _ (List.Mem.tail _ (List.Mem.head _))))
  have HK := H.old
  clear H
  go_wp2_with fail
  exact bodyPost_ret (v := .tuple #[.agg #[.int .i64 0, .int .i64 0], .int .i64 3]) (by simp [results, Tryd.results12, go_sem, cz0, cz1]) rfl ⟨rfl, (HK.setCell (by simp <;> omega) _).setCell (by simp <;> omega) _⟩

set_option maxHeartbeats 1000000 in
theorem rby365_order (a b : Int) (w : World) (h1 : 1 ≤ a ∧ a ≤ 3652059) (h2 : 1 ≤ b ∧ b ≤ 3652059) (h : b < a) :
    Calls Tryd.prog 12 #[.int .i64 a, .int .i64 b] w fun e' w' => e' = .returned (.tuple #[.agg #[.int .i64 0, .int .i64 0], .int .i64 4]) ∧ Below w.heap.size w w' := by
  have H := Held.start w
  have W1 : Hid (WhyIs a b 4) := Lib.hid (Or.inr (Or.inl ⟨h1, h2, h, rfl⟩))
  go_enter Tryd.func12, Tryd.ntmps12
  go_wp2_with fail
  replace H := (H.pair (w.heap.size) (.int .i64 0) (.int .i64 0) 24 rfl)
  (with_reducible refine (rwhy_any a b 4 _ W1.out).mono ?_)
  rintro e w1 ⟨rfl, hb⟩
  replace H := H.below hb
  clear hb
  have cz0 := H.cell (w.heap.size) 0 (.int .i64 0) (List.Mem.head _)
  have cz1 := H.cell (w.heap.size) 1 (.int .i64 0) (List.Mem.tail _ (List.Mem.head _))
  have lz := H.lt (w.heap.size) 0 (.int .i64 0) (List.Mem.head _)
  have fz0 := H.frozen (w.heap.size) 0 (List.Mem.tail _ (List.Mem.tail _ (List.Mem.head _)))
  have fz1 := H.frozen (w.heap.size) 1 (List.Mem.tail _ (List.Mem.tail _ (List.Mem.tail _ (List.Mem.head _))))
  have HK := H.old
  clear H
  go_wp2_with fail
  exact bodyPost_ret (v := .tuple #[.agg #[.int .i64 0, .int .i64 0], .int .i64 4]) (by simp [results, Tryd.results12, go_sem, cz0, cz1]) rfl ⟨rfl, (HK.setCell (by simp <;> omega) _).setCell (by simp <;> omega) _⟩

theorem rby365_any (a b p q c : Int) (w : World) (h : AcIs aX 365 a b p q c) : Calls Tryd.prog 12 #[.int .i64 a, .int .i64 b] w fun e' w' => e' = .returned (.tuple #[.agg #[.int .i64 p, .int .i64 q], .int .i64 c]) ∧ Below w.heap.size w w' := by
  rcases h with ⟨y1, m1, d1, y2, m2, d2, h1, ha, h2, hb, hab, hp, hq, rfl⟩ | ⟨h, rfl, rfl, rfl⟩ | ⟨h1, h2, h, rfl, rfl, rfl⟩
  · have b1 := nb_bd _ _ _ h1
    have b2 := nb_bd _ _ _ h2
    unfold aX at hp hq
    rw [ha] at b1 hp hq
    rw [hb] at b2 hp hq
    exact rby365_in a b p q w b1 b2 hab hp hq
  · exact rby365_day a b w h
  · exact rby365_order a b w h1 h2 h

set_option maxHeartbeats 1000000 in
theorem rbyyears_in (a b y1 m1 d1 y2 m2 d2 p q : Int) (w : World) (h1 : may y1 m1 d1) (ha : nb y1 m1 d1 = a) (h2 : may y2 m2 d2) (hb : nb y2 m2 d2 = b) (hab : a ≤ b) (hp : rN (yX y1 m1 d1 y2 m2 d2) 133590 = p) (hq : rD (yX y1 m1 d1 y2 m2 d2) 133590 = q) :
    Calls Tryd.prog 14 #[.int .i64 a, .int .i64 b] w fun e' w' => e' = .returned (.tuple #[.agg #[.int .i64 p, .int .i64 q], .int .i64 0]) ∧ Below w.heap.size w w' := by
  have H := Held.start w
  have b1 := nb_bd _ _ _ h1
  have b2 := nb_bd _ _ _ h2
  have le := lv_le _ _ _ _ _ _ h1 h2 (by omega)
  have v1 := lv_bd _ _ _ h1
  have v2 := lv_bd _ _ _ h2
  unfold yX inX at hp hq
  have C1 := Lib.hid (fun v => leaps_any a y1 m1 d1 v h1 ha)
  have C2 := Lib.hid (fun v => leaps_any b y2 m2 d2 v h2 hb)
  rw [ha, hb] at le hp hq
  rw [ha] at b1
  rw [hb] at b2
  obtain ⟨A, hA⟩ : ∃ A, lv y1 m1 d1 = A := ⟨_, rfl⟩
  obtain ⟨B, hB⟩ : ∃ B, lv y2 m2 d2 = B := ⟨_, rfl⟩
  rw [hA] at C1 le hp hq v1
  rw [hB] at C2 le hp hq v2
  have W1 : Hid (WhyIs a b 0) := Lib.hid (Or.inr (Or.inr ⟨b1, b2, hab, rfl⟩))
  obtain ⟨s1, s2, s3, s4, s5⟩ := years_sum (B - A) (b - a - (B - A)) le.1 (by omega) (by omega) (by omega)
  rw [hp] at s3
  rw [hq] at s4
  have f1 := (r_yes (fit_den (B - A) 366 le.1 (by omega) (by decide) (by decide))).2.2
  have f2 := (r_yes (fit_den (b - a - (B - A)) 365 (by omega) (by omega) (by decide) (by decide))).2.2
  obtain ⟨p1, hp1⟩ : ∃ x, rN (B - A) 366 = x := ⟨_, rfl⟩
  obtain ⟨q1, hq1⟩ : ∃ x, rD (B - A) 366 = x := ⟨_, rfl⟩
  obtain ⟨p2, hp2⟩ : ∃ x, rN (b - a - (B - A)) 365 = x := ⟨_, rfl⟩
  obtain ⟨q2, hq2⟩ : ∃ x, rD (b - a - (B - A)) 365 = x := ⟨_, rfl⟩
  rw [hp1, hq1] at s1
  rw [hp2, hq2] at s2
  rw [hp1, hq1, hp2, hq2] at s3 s4 s5
  have N1 : Hid (rN (B - A) 366 = p1 ∧ rD (B - A) 366 = q1 ∧ rE (B - A) 366 = 0) := Lib.hid ⟨hp1, hq1, f1⟩
  have N2 : Hid (rN (b - a - (B - A)) 365 = p2 ∧ rD (b - a - (B - A)) 365 = q2 ∧ rE (b - a - (B - A)) 365 = 0) := Lib.hid ⟨hp2, hq2, f2⟩
  have S1 := Lib.hid (fun v => refadd8_is p1 q1 p2 q2 p q 0 v s1 s2 ⟨s3, s4, s5⟩)
  clear h1 h2 ha hb hp hq hA hB s1 s2 s3 s4 s5 f1 f2 hp1 hq1 hp2 hq2
  go_enter Tryd.func14, Tryd.ntmps14
  go_wp2_with fail
  replace H := (H.pair (w.heap.size) (.int .i64 0) (.int .i64 0) 24 rfl)
  (with_reducible refine (rwhy_any a b 0 _ W1.out).mono ?_)
  rintro e w1 ⟨rfl, hb⟩
  replace H := H.below hb
  clear hb
  go_wp2_with fail
  (with_reducible refine (C2.out _).mono ?_)
  rintro e w2 ⟨rfl, hb⟩
  replace H := H.below hb
  clear hb
  go_wp2_with fail
  (with_reducible refine (C1.out _).mono ?_)
  rintro e w3 ⟨rfl, hb⟩
  replace H := H.below hb
  clear hb
  go_wp2_with fail
  (with_reducible refine (refnew8_is (B - A) 366 p1 q1 0 _ le.1 (by omega) (by decide) (by decide) N1.out).mono ?_)
  rintro e w4 ⟨rfl, hb⟩
  replace H := H.below hb
  clear hb
  go_wp2_with fail
  replace H := (H.pair (w4.heap.size) (.int .i64 p1) (.int .i64 q1) 24 rfl)
  (with_reducible refine (refnew8_is (b - a - (B - A)) 365 p2 q2 0 _ (by omega) (by omega) (by decide) (by decide) N2.out).mono ?_)
  rintro e w5 ⟨rfl, hb⟩
  replace H := H.below hb
  clear hb
  have cp0 := H.cell (w4.heap.size) 0 (.int .i64 p1) (List.Mem.head _)
  have cp1 := H.cell (w4.heap.size) 1 (.int .i64 q1) (List.Mem.tail _ (List.Mem.head _))
  have lp := H.lt (w4.heap.size) 0 (.int .i64 p1) (List.Mem.head _)
  go_wp2_with fail
  clear cp0 cp1 lp
  replace H := (H.pair (w5.heap.size) (.int .i64 p2) (.int .i64 q2) 24 rfl)
  (with_reducible refine (S1.out _).mono ?_)
  rintro e w6 ⟨rfl, hb⟩
  replace H := H.below hb
  clear hb
  have cz0 := H.cell (w.heap.size) 0 (.int .i64 0) (List.Mem.tail _ (List.Mem.tail _ (List.Mem.tail _ (List.Mem.tail _ (List.Mem.tail _ (List.Mem.tail _ (List.Mem.tail _ (List.Mem.tail _ (List.Mem.head _)))))))))
  have cz1 := H.cell (w.heap.size) 1 (.int .i64 0) (List.Mem.tail _ (List.Mem.tail _ (List.Mem.tail _ (List.Mem.tail _ (List.Mem.tail _ (List.Mem.tail _ (List.Mem.tail _ (List.Mem.tail _ (List.Mem.tail _ (List.Mem.head _))))))))))
  have lz := H.lt (w.heap.size) 0 (.int .i64 0) (List.Mem.tail _ (List.Mem.tail _ (List.Mem.tail _ (List.Mem.tail _ (List.Mem.tail _ (List.Mem.tail _ (List.Mem.tail _ (List.Mem.tail _ (List.Mem.head _)))))))))
  have fz0 := H.frozen (w.heap.size) 0 (List.Mem.tail _ (List.Mem.tail _ (List.Mem.tail _ (List.Mem.tail _ (List.Mem.tail _ (List.Mem.tail _ (List.Mem.tail _ (List.Mem.tail _ (List.Mem.tail _ (List.Mem.tail _ (List.Mem.head _)))))))))))
  have fz1 := H.frozen (w.heap.size) 1 (List.Mem.tail _ (List.Mem.tail _ (List.Mem.tail _ (List.Mem.tail _ (List.Mem.tail _ (List.Mem.tail _ (List.Mem.tail _ (List.Mem.tail _ (List.Mem.tail _ (List.Mem.tail _ (List.Mem.tail _ (List.Mem.head _))))))))))))
  have HK := H.old
  clear H
  go_wp2_with fail
  exact bodyPost_ret (v := .tuple #[.agg #[.int .i64 p, .int .i64 q], .int .i64 0]) (by simp [results, Tryd.results14, go_sem, cz0, cz1]) rfl ⟨rfl, (HK.setCell (by simp <;> omega) _).setCell (by simp <;> omega) _⟩

set_option maxHeartbeats 1000000 in
theorem rbyyears_day (a b : Int) (w : World) (h : (a < 1 ∨ 3652059 < a) ∨ (b < 1 ∨ 3652059 < b)) :
    Calls Tryd.prog 14 #[.int .i64 a, .int .i64 b] w fun e' w' => e' = .returned (.tuple #[.agg #[.int .i64 0, .int .i64 0], .int .i64 3]) ∧ Below w.heap.size w w' := by
  have H := Held.start w
  have W1 : Hid (WhyIs a b 3) := Lib.hid (Or.inl ⟨h, rfl⟩)
  go_enter Tryd.func14, Tryd.ntmps14
  go_wp2_with fail
  replace H := (H.pair (w.heap.size) (.int .i64 0) (.int .i64 0) 24 rfl)
  (with_reducible refine (rwhy_any a b 3 _ W1.out).mono ?_)
  rintro e w1 ⟨rfl, hb⟩
  replace H := H.below hb
  clear hb
  have cz0 := H.cell (w.heap.size) 0 (.int .i64 0) (List.Mem.head _)
  have cz1 := H.cell (w.heap.size) 1 (.int .i64 0) (List.Mem.tail _ (List.Mem.head _))
  have lz := H.lt (w.heap.size) 0 (.int .i64 0) (List.Mem.head _)
  have fz0 := H.frozen (w.heap.size) 0 (List.Mem.tail _ (List.Mem.tail _ (List.Mem.head _)))
  have fz1 := H.frozen (w.heap.size) 1 (List.Mem.tail _ (List.Mem.tail _ (List.Mem.tail _ (List.Mem.head _))))
  have HK := H.old
  clear H
  go_wp2_with fail
  exact bodyPost_ret (v := .tuple #[.agg #[.int .i64 0, .int .i64 0], .int .i64 3]) (by simp [results, Tryd.results14, go_sem, cz0, cz1]) rfl ⟨rfl, (HK.setCell (by simp <;> omega) _).setCell (by simp <;> omega) _⟩

set_option maxHeartbeats 1000000 in
theorem rbyyears_order (a b : Int) (w : World) (h1 : 1 ≤ a ∧ a ≤ 3652059) (h2 : 1 ≤ b ∧ b ≤ 3652059) (h : b < a) :
    Calls Tryd.prog 14 #[.int .i64 a, .int .i64 b] w fun e' w' => e' = .returned (.tuple #[.agg #[.int .i64 0, .int .i64 0], .int .i64 4]) ∧ Below w.heap.size w w' := by
  have H := Held.start w
  have W1 : Hid (WhyIs a b 4) := Lib.hid (Or.inr (Or.inl ⟨h1, h2, h, rfl⟩))
  go_enter Tryd.func14, Tryd.ntmps14
  go_wp2_with fail
  replace H := (H.pair (w.heap.size) (.int .i64 0) (.int .i64 0) 24 rfl)
  (with_reducible refine (rwhy_any a b 4 _ W1.out).mono ?_)
  rintro e w1 ⟨rfl, hb⟩
  replace H := H.below hb
  clear hb
  have cz0 := H.cell (w.heap.size) 0 (.int .i64 0) (List.Mem.head _)
  have cz1 := H.cell (w.heap.size) 1 (.int .i64 0) (List.Mem.tail _ (List.Mem.head _))
  have lz := H.lt (w.heap.size) 0 (.int .i64 0) (List.Mem.head _)
  have fz0 := H.frozen (w.heap.size) 0 (List.Mem.tail _ (List.Mem.tail _ (List.Mem.head _)))
  have fz1 := H.frozen (w.heap.size) 1 (List.Mem.tail _ (List.Mem.tail _ (List.Mem.tail _ (List.Mem.head _))))
  have HK := H.old
  clear H
  go_wp2_with fail
  exact bodyPost_ret (v := .tuple #[.agg #[.int .i64 0, .int .i64 0], .int .i64 4]) (by simp [results, Tryd.results14, go_sem, cz0, cz1]) rfl ⟨rfl, (HK.setCell (by simp <;> omega) _).setCell (by simp <;> omega) _⟩

theorem rbyyears_any (a b p q c : Int) (w : World) (h : AcIs yX 133590 a b p q c) : Calls Tryd.prog 14 #[.int .i64 a, .int .i64 b] w fun e' w' => e' = .returned (.tuple #[.agg #[.int .i64 p, .int .i64 q], .int .i64 c]) ∧ Below w.heap.size w w' := by
  rcases h with ⟨y1, m1, d1, y2, m2, d2, h1, ha, h2, hb, hab, hp, hq, rfl⟩ | ⟨h, rfl, rfl, rfl⟩ | ⟨h1, h2, h, rfl, rfl, rfl⟩
  · exact rbyyears_in a b y1 m1 d1 y2 m2 d2 p q w h1 ha h2 hb hab hp hq
  · exact rbyyears_day a b w h
  · exact rbyyears_order a b w h1 h2 h
end Go.Proofs.YtobdimekjhdefaaDoor
