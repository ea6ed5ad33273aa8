/- The reference of layer 7: US. -/
import Derived.Test.YtkmjaoiehmddcaaDoorTyRef
namespace Go.Proofs.YtkmjaoiehmddcaaDoor
open Go.RowKit
set_option linter.unusedVariables false
set_option linter.unusedSimpArgs false

set_option maxHeartbeats 1000000 in
theorem rfeb_no (n y m d : Int) (w : World) (hl : LastIs n false) :
    Calls Tryd.prog 33 #[.int .i64 n, .agg #[.int .i64 y, .int .i64 m, .int .i64 d]] w fun e' w' => e' = .returned (.bool false) ∧ Below w.heap.size w w' := by
  have H := Held.start w
  have L1 := Lib.hid hl
  clear hl
  go_enter Tryd.func33, Tryd.ntmps33
  go_wp2_with fail
  replace H := (H.triple (w.heap.size) (.int .i64 y) (.int .i64 m) (.int .i64 d) 41 rfl)
  (with_reducible refine (rlast_any n false _ L1.out).mono ?_)
  rintro e w1 ⟨rfl, hb⟩
  replace H := H.below hb
  clear hb
  have ca0 := H.cell (w.heap.size) 0 (.int .i64 y) (List.Mem.head _)
  have ca1 := H.cell (w.heap.size) 1 (.int .i64 m) (List.Mem.tail _ (List.Mem.head _))
  have ca2 := H.cell (w.heap.size) 2 (.int .i64 d) (List.Mem.tail _ (List.Mem.tail _ (List.Mem.head _)))
  have la := H.lt (w.heap.size) 0 (.int .i64 y) (List.Mem.head _)
  have HK := H.old
  clear H
  go_wp2
  go_ret
  exact ⟨rfl, HK⟩

set_option maxHeartbeats 1000000 in
theorem rfeb_two (n y d : Int) (w : World) (hl : LastIs n true) :
    Calls Tryd.prog 33 #[.int .i64 n, .agg #[.int .i64 y, .int .i64 2, .int .i64 d]] w fun e' w' => e' = .returned (.bool true) ∧ Below w.heap.size w w' := by
  have H := Held.start w
  have L1 := Lib.hid hl
  clear hl
  go_enter Tryd.func33, Tryd.ntmps33
  go_wp2_with fail
  replace H := (H.triple (w.heap.size) (.int .i64 y) (.int .i64 2) (.int .i64 d) 41 rfl)
  (with_reducible refine (rlast_any n true _ L1.out).mono ?_)
  rintro e w1 ⟨rfl, hb⟩
  replace H := H.below hb
  clear hb
  have ca0 := H.cell (w.heap.size) 0 (.int .i64 y) (List.Mem.head _)
  have ca1 := H.cell (w.heap.size) 1 (.int .i64 2) (List.Mem.tail _ (List.Mem.head _))
  have ca2 := H.cell (w.heap.size) 2 (.int .i64 d) (List.Mem.tail _ (List.Mem.tail _ (List.Mem.head _)))
  have la := H.lt (w.heap.size) 0 (.int .i64 y) (List.Mem.head _)
  have HK := H.old
  clear H
  go_wp2
  go_ret
  exact ⟨rfl, HK⟩

set_option maxHeartbeats 1000000 in
theorem rfeb_other (n y m d : Int) (w : World) (hl : LastIs n true) (hm : m ≠ 2) :
    Calls Tryd.prog 33 #[.int .i64 n, .agg #[.int .i64 y, .int .i64 m, .int .i64 d]] w fun e' w' => e' = .returned (.bool false) ∧ Below w.heap.size w w' := by
  have H := Held.start w
  have L1 := Lib.hid hl
  clear hl
  have t1 : (m == 2) = false := beq_eq_false_iff_ne.2 hm
  clear hm
  go_enter Tryd.func33, Tryd.ntmps33
  go_wp2_with fail
  replace H := (H.triple (w.heap.size) (.int .i64 y) (.int .i64 m) (.int .i64 d) 41 rfl)
  (with_reducible refine (rlast_any n true _ L1.out).mono ?_)
  rintro e w1 ⟨rfl, hb⟩
  replace H := H.below hb
  clear hb
  have ca0 := H.cell (w.heap.size) 0 (.int .i64 y) (List.Mem.head _)
  have ca1 := H.cell (w.heap.size) 1 (.int .i64 m) (List.Mem.tail _ (List.Mem.head _))
  have ca2 := H.cell (w.heap.size) 2 (.int .i64 d) (List.Mem.tail _ (List.Mem.tail _ (List.Mem.head _)))
  have la := H.lt (w.heap.size) 0 (.int .i64 y) (List.Mem.head _)
  have HK := H.old
  clear H
  go_wp2
  go_ret
  exact ⟨rfl, HK⟩

theorem rfeb_is (n y m d : Int) (b : Bool) (w : World) (h : may y m d) (hn : nb y m d = n) (hb : febB y m d = b) : Calls Tryd.prog 33 #[.int .i64 n, .agg #[.int .i64 y, .int .i64 m, .int .i64 d]] w fun e' w' => e' = .returned (.bool b) ∧ Below w.heap.size w w' := by
  subst hb
  unfold febB
  by_cases hl : d = ln y m
  · by_cases hm : m = 2
    · subst hm
      rw [decide_eq_true (show (2 : Int) = 2 ∧ d = ln y 2 from ⟨rfl, hl⟩)]
      exact rfeb_two n y d w (last_in y 2 d h hn (decide_eq_true hl))
    · rw [decide_eq_false (show ¬ (m = 2 ∧ d = ln y m) from fun hh => hm hh.1)]
      exact rfeb_other n y m d w (last_in y m d h hn (decide_eq_true hl)) hm
  · rw [decide_eq_false (show ¬ (m = 2 ∧ d = ln y m) from fun hh => hl hh.2)]
    exact rfeb_no n y m d w (last_in y m d h hn (decide_eq_false hl))

set_option maxHeartbeats 1000000 in
theorem rus_n3131 (a b y1 m1 y2 m2 p q : Int) (g1 : Bool) (g2 : Bool) (w : World) (h1 : may y1 m1 31) (ha : nb y1 m1 31 = a) (h2 : may y2 m2 31) (hb : nb y2 m2 31 = b) (hab : a ≤ b) (hf1 : febB y1 m1 31 = g1) (hf2 : febB y2 m2 31 = g2) (hp : rN (px y1 m1 30 y2 m2 30) 360 = p) (hq : rD (px y1 m1 30 y2 m2 30) 360 = q) :
    Calls Tryd.prog 11 #[.int .i64 a, .int .i64 b, .bool false] w fun e' w' => e' = .returned (.tuple #[.agg #[.int .i64 p, .int .i64 q], .int .i64 0]) ∧ Below w.heap.size w w' := by
  have H := Held.start w
  have b1 := nb_bd _ _ _ h1
  have b2 := nb_bd _ _ _ h2
  rw [ha] at b1
  rw [hb] at b2
  have W1 : Hid (WhyIs a b 0) := Lib.hid (Or.inr (Or.inr ⟨b1, b2, hab, rfl⟩))
  have O1 : Hid (DayIs a y1 m1 31 0) := Lib.hid (Or.inl ⟨h1, ha, rfl⟩)
  have O2 : Hid (DayIs b y2 m2 31 0) := Lib.hid (Or.inl ⟨h2, hb, rfl⟩)
  have l1 := ln_le y1 m1
  have l2 := ln_le y2 m2
  obtain ⟨u1, u2, u3, u4, u5, u6⟩ := h1
  obtain ⟨v1, v2, v3, v4, v5, v6⟩ := h2
  have w1 : 0 ≤ 31 ∧ 31 ≤ 31 := by omega
  have w2 : 0 ≤ 31 ∧ 31 ≤ 31 := by omega
  clear l1 l2
  have HP := Lib.hid hp
  have HQ := Lib.hid hq
  clear hp hq
  have F1 : Hid (∀ v, Calls Tryd.prog 33 #[.int .i64 a, .agg #[.int .i64 y1, .int .i64 m1, .int .i64 31]] v fun e w' => e = .returned (.bool g1) ∧ Below v.heap.size v w') := Lib.hid (fun v => rfeb_is a y1 m1 31 g1 v ⟨u1, u2, u3, u4, u5, u6⟩ ha hf1)
  have F2 : Hid (∀ v, Calls Tryd.prog 33 #[.int .i64 b, .agg #[.int .i64 y2, .int .i64 m2, .int .i64 31]] v fun e w' => e = .returned (.bool g2) ∧ Below v.heap.size v w') := Lib.hid (fun v => rfeb_is b y2 m2 31 g2 v ⟨v1, v2, v3, v4, v5, v6⟩ hb hf2)
  clear hf1 hf2
  clear ha hb hab u6 v6
  go_enter Tryd.func11, Tryd.ntmps11
  go_wp2_with fail
  replace H := (H.pair (w.heap.size) (.int .i64 0) (.int .i64 0) 26 rfl)
  (with_reducible refine (rwhy_any a b 0 _ W1.out).mono ?_)
  rintro e w1 ⟨rfl, hb⟩
  replace H := H.below hb
  clear hb
  go_wp2_with fail
  (with_reducible refine (rof_any a y1 m1 31 0 _ O1.out).mono ?_)
  rintro e w2 ⟨rfl, hb⟩
  replace H := H.below hb
  clear hb
  go_wp2_with fail
  replace H := (H.triple (w2.heap.size) (.int .i64 y1) (.int .i64 m1) (.int .i64 31) 41 rfl)
  (with_reducible refine (rof_any b y2 m2 31 0 _ O2.out).mono ?_)
  rintro e w3 ⟨rfl, hb⟩
  replace H := H.below hb
  clear hb
  have ca0 := H.cell (w2.heap.size) 0 (.int .i64 y1) (List.Mem.head _)
  have ca1 := H.cell (w2.heap.size) 1 (.int .i64 m1) (List.Mem.tail _ (List.Mem.head _))
  have ca2 := H.cell (w2.heap.size) 2 (.int .i64 31) (List.Mem.tail _ (List.Mem.tail _ (List.Mem.head _)))
  have la := H.lt (w2.heap.size) 0 (.int .i64 y1) (List.Mem.head _)
  go_wp2_with fail
  clear ca0 ca1 ca2 la
  replace H := (H.triple (w3.heap.size) (.int .i64 y2) (.int .i64 m2) (.int .i64 31) 41 rfl)
  (with_reducible refine (F1.out _).mono ?_)
  rintro e w4 ⟨rfl, hb⟩
  replace H := H.below hb
  clear hb
  have ca0 := H.cell (w2.heap.size) 0 (.int .i64 y1) (List.Mem.tail _ (List.Mem.tail _ (List.Mem.tail _ (List.Mem.tail _ (List.Mem.tail _ (List.Mem.tail _ (List.Mem.head _)))))))
  have ca1 := H.cell (w2.heap.size) 1 (.int .i64 m1) (List.Mem.tail _ (List.Mem.tail _ (List.Mem.tail _ (List.Mem.tail _ (List.Mem.tail _ (List.Mem.tail _ (List.Mem.tail _ (List.Mem.head _))))))))
  have ca2 := H.cell (w2.heap.size) 2 (.int .i64 31) (List.Mem.tail _ (List.Mem.tail _ (List.Mem.tail _ (List.Mem.tail _ (List.Mem.tail _ (List.Mem.tail _ (List.Mem.tail _ (List.Mem.tail _ (List.Mem.head _)))))))))
  have la := H.lt (w2.heap.size) 0 (.int .i64 y1) (List.Mem.tail _ (List.Mem.tail _ (List.Mem.tail _ (List.Mem.tail _ (List.Mem.tail _ (List.Mem.tail _ (List.Mem.head _)))))))
  have cb0 := H.cell (w3.heap.size) 0 (.int .i64 y2) (List.Mem.head _)
  have cb1 := H.cell (w3.heap.size) 1 (.int .i64 m2) (List.Mem.tail _ (List.Mem.head _))
  have cb2 := H.cell (w3.heap.size) 2 (.int .i64 31) (List.Mem.tail _ (List.Mem.tail _ (List.Mem.head _)))
  have lb := H.lt (w3.heap.size) 0 (.int .i64 y2) (List.Mem.head _)
  go_wp2_with fail
  clear ca0 ca1 ca2 la cb0 cb1 cb2 lb
  (with_reducible refine (F2.out _).mono ?_)
  rintro e w5 ⟨rfl, hb⟩
  replace H := H.below hb
  clear hb
  have ca0 := H.cell (w2.heap.size) 0 (.int .i64 y1) (List.Mem.tail _ (List.Mem.tail _ (List.Mem.tail _ (List.Mem.tail _ (List.Mem.tail _ (List.Mem.tail _ (List.Mem.head _)))))))
  have ca1 := H.cell (w2.heap.size) 1 (.int .i64 m1) (List.Mem.tail _ (List.Mem.tail _ (List.Mem.tail _ (List.Mem.tail _ (List.Mem.tail _ (List.Mem.tail _ (List.Mem.tail _ (List.Mem.head _))))))))
  have ca2 := H.cell (w2.heap.size) 2 (.int .i64 31) (List.Mem.tail _ (List.Mem.tail _ (List.Mem.tail _ (List.Mem.tail _ (List.Mem.tail _ (List.Mem.tail _ (List.Mem.tail _ (List.Mem.tail _ (List.Mem.head _)))))))))
  have la := H.lt (w2.heap.size) 0 (.int .i64 y1) (List.Mem.tail _ (List.Mem.tail _ (List.Mem.tail _ (List.Mem.tail _ (List.Mem.tail _ (List.Mem.tail _ (List.Mem.head _)))))))
  have cb0 := H.cell (w3.heap.size) 0 (.int .i64 y2) (List.Mem.head _)
  have cb1 := H.cell (w3.heap.size) 1 (.int .i64 m2) (List.Mem.tail _ (List.Mem.head _))
  have cb2 := H.cell (w3.heap.size) 2 (.int .i64 31) (List.Mem.tail _ (List.Mem.tail _ (List.Mem.head _)))
  have lb := H.lt (w3.heap.size) 0 (.int .i64 y2) (List.Mem.head _)
  go_wp2_with fail
  clear ca0 ca1 ca2 la cb0 cb1 cb2 lb
  (with_reducible refine (rpart_any y1 m1 31 y2 m2 31 30 30 p q _ ⟨u1, u2⟩ ⟨v1, v2⟩ ⟨u3, u4⟩ ⟨v3, v4⟩ (by omega) (by omega) HP.out HQ.out).mono ?_)
  rintro e w6 ⟨rfl, hb⟩
  replace H := H.below hb
  clear hb
  have cz0 := H.cell (w.heap.size) 0 (.int .i64 0) (List.Mem.tail _ (List.Mem.tail _ (List.Mem.tail _ (List.Mem.tail _ (List.Mem.tail _ (List.Mem.tail _ (List.Mem.tail _ (List.Mem.tail _ (List.Mem.tail _ (List.Mem.tail _ (List.Mem.tail _ (List.Mem.tail _ (List.Mem.head _)))))))))))))
  have cz1 := H.cell (w.heap.size) 1 (.int .i64 0) (List.Mem.tail _ (List.Mem.tail _ (List.Mem.tail _ (List.Mem.tail _ (List.Mem.tail _ (List.Mem.tail _ (List.Mem.tail _ (List.Mem.tail _ (List.Mem.tail _ (List.Mem.tail _ (List.Mem.tail _ (List.Mem.tail _ (List.Mem.tail _ (List.Mem.head _))))))))))))))
  have lz := H.lt (w.heap.size) 0 (.int .i64 0) (List.Mem.tail _ (List.Mem.tail _ (List.Mem.tail _ (List.Mem.tail _ (List.Mem.tail _ (List.Mem.tail _ (List.Mem.tail _ (List.Mem.tail _ (List.Mem.tail _ (List.Mem.tail _ (List.Mem.tail _ (List.Mem.tail _ (List.Mem.head _)))))))))))))
  have fz0 := H.frozen (w.heap.size) 0 (List.Mem.tail _ (List.Mem.tail _ (List.Mem.tail _ (List.Mem.tail _ (List.Mem.tail _ (List.Mem.tail _ (List.Mem.tail _ (List.Mem.tail _ (List.Mem.tail _ (List.Mem.tail _ (List.Mem.tail _ (List.Mem.tail _ (List.Mem.tail _ (List.Mem.tail _ (List.Mem.head _)))))))))))))))
  have fz1 := H.frozen (w.heap.size) 1 (List.Mem.tail _ (List.Mem.tail _ (List.Mem.tail _ (List.Mem.tail _ (List.Mem.tail _ (List.Mem.tail _ (List.Mem.tail _ (List.Mem.tail _ (List.Mem.tail _ (List.Mem.tail _ (List.Mem.tail _ (List.Mem.tail _ (List.Mem.tail _ (List.Mem.tail _ (List.Mem.tail _ (List.Mem.head _))))))))))))))))
  have HK := H.old
  clear H
  go_wp2_with fail
  exact bodyPost_ret (v := .tuple #[.agg #[.int .i64 p, .int .i64 q], .int .i64 0]) (by simp [results, Tryd.results11, go_sem, cz0, cz1]) rfl ⟨rfl, (HK.setCell (by simp <;> omega) _).setCell (by simp <;> omega) _⟩

set_option maxHeartbeats 1000000 in
theorem rus_n31d2 (a b y1 m1 y2 m2 d2 p q : Int) (g1 : Bool) (g2 : Bool) (w : World) (h1 : may y1 m1 31) (ha : nb y1 m1 31 = a) (h2 : may y2 m2 d2) (hb : nb y2 m2 d2 = b) (hab : a ≤ b) (hf1 : febB y1 m1 31 = g1) (hf2 : febB y2 m2 d2 = g2) (n2 : d2 ≠ 31) (hp : rN (px y1 m1 30 y2 m2 d2) 360 = p) (hq : rD (px y1 m1 30 y2 m2 d2) 360 = q) :
    Calls Tryd.prog 11 #[.int .i64 a, .int .i64 b, .bool false] w fun e' w' => e' = .returned (.tuple #[.agg #[.int .i64 p, .int .i64 q], .int .i64 0]) ∧ Below w.heap.size w w' := by
  have H := Held.start w
  have b1 := nb_bd _ _ _ h1
  have b2 := nb_bd _ _ _ h2
  rw [ha] at b1
  rw [hb] at b2
  have W1 : Hid (WhyIs a b 0) := Lib.hid (Or.inr (Or.inr ⟨b1, b2, hab, rfl⟩))
  have O1 : Hid (DayIs a y1 m1 31 0) := Lib.hid (Or.inl ⟨h1, ha, rfl⟩)
  have O2 : Hid (DayIs b y2 m2 d2 0) := Lib.hid (Or.inl ⟨h2, hb, rfl⟩)
  have l1 := ln_le y1 m1
  have l2 := ln_le y2 m2
  obtain ⟨u1, u2, u3, u4, u5, u6⟩ := h1
  obtain ⟨v1, v2, v3, v4, v5, v6⟩ := h2
  have w1 : 0 ≤ 31 ∧ 31 ≤ 31 := by omega
  have w2 : 0 ≤ d2 ∧ d2 ≤ 31 := by omega
  clear l1 l2
  have HP := Lib.hid hp
  have HQ := Lib.hid hq
  clear hp hq
  have F1 : Hid (∀ v, Calls Tryd.prog 33 #[.int .i64 a, .agg #[.int .i64 y1, .int .i64 m1, .int .i64 31]] v fun e w' => e = .returned (.bool g1) ∧ Below v.heap.size v w') := Lib.hid (fun v => rfeb_is a y1 m1 31 g1 v ⟨u1, u2, u3, u4, u5, u6⟩ ha hf1)
  have F2 : Hid (∀ v, Calls Tryd.prog 33 #[.int .i64 b, .agg #[.int .i64 y2, .int .i64 m2, .int .i64 d2]] v fun e w' => e = .returned (.bool g2) ∧ Below v.heap.size v w') := Lib.hid (fun v => rfeb_is b y2 m2 d2 g2 v ⟨v1, v2, v3, v4, v5, v6⟩ hb hf2)
  clear hf1 hf2
  have t2 : (d2 == 31) = false := beq_eq_false_iff_ne.2 n2
  clear ha hb hab u6 v6
  go_enter Tryd.func11, Tryd.ntmps11
  go_wp2_with fail
  replace H := (H.pair (w.heap.size) (.int .i64 0) (.int .i64 0) 26 rfl)
  (with_reducible refine (rwhy_any a b 0 _ W1.out).mono ?_)
  rintro e w1 ⟨rfl, hb⟩
  replace H := H.below hb
  clear hb
  go_wp2_with fail
  (with_reducible refine (rof_any a y1 m1 31 0 _ O1.out).mono ?_)
  rintro e w2 ⟨rfl, hb⟩
  replace H := H.below hb
  clear hb
  go_wp2_with fail
  replace H := (H.triple (w2.heap.size) (.int .i64 y1) (.int .i64 m1) (.int .i64 31) 41 rfl)
  (with_reducible refine (rof_any b y2 m2 d2 0 _ O2.out).mono ?_)
  rintro e w3 ⟨rfl, hb⟩
  replace H := H.below hb
  clear hb
  have ca0 := H.cell (w2.heap.size) 0 (.int .i64 y1) (List.Mem.head _)
  have ca1 := H.cell (w2.heap.size) 1 (.int .i64 m1) (List.Mem.tail _ (List.Mem.head _))
  have ca2 := H.cell (w2.heap.size) 2 (.int .i64 31) (List.Mem.tail _ (List.Mem.tail _ (List.Mem.head _)))
  have la := H.lt (w2.heap.size) 0 (.int .i64 y1) (List.Mem.head _)
  go_wp2_with fail
  clear ca0 ca1 ca2 la
  replace H := (H.triple (w3.heap.size) (.int .i64 y2) (.int .i64 m2) (.int .i64 d2) 41 rfl)
  (with_reducible refine (F1.out _).mono ?_)
  rintro e w4 ⟨rfl, hb⟩
  replace H := H.below hb
  clear hb
  have ca0 := H.cell (w2.heap.size) 0 (.int .i64 y1) (List.Mem.tail _ (List.Mem.tail _ (List.Mem.tail _ (List.Mem.tail _ (List.Mem.tail _ (List.Mem.tail _ (List.Mem.head _)))))))
  have ca1 := H.cell (w2.heap.size) 1 (.int .i64 m1) (List.Mem.tail _ (List.Mem.tail _ (List.Mem.tail _ (List.Mem.tail _ (List.Mem.tail _ (List.Mem.tail _ (List.Mem.tail _ (List.Mem.head _))))))))
  have ca2 := H.cell (w2.heap.size) 2 (.int .i64 31) (List.Mem.tail _ (List.Mem.tail _ (List.Mem.tail _ (List.Mem.tail _ (List.Mem.tail _ (List.Mem.tail _ (List.Mem.tail _ (List.Mem.tail _ (List.Mem.head _)))))))))
  have la := H.lt (w2.heap.size) 0 (.int .i64 y1) (List.Mem.tail _ (List.Mem.tail _ (List.Mem.tail _ (List.Mem.tail _ (List.Mem.tail _ (List.Mem.tail _ (List.Mem.head _)))))))
  have cb0 := H.cell (w3.heap.size) 0 (.int .i64 y2) (List.Mem.head _)
  have cb1 := H.cell (w3.heap.size) 1 (.int .i64 m2) (List.Mem.tail _ (List.Mem.head _))
  have cb2 := H.cell (w3.heap.size) 2 (.int .i64 d2) (List.Mem.tail _ (List.Mem.tail _ (List.Mem.head _)))
  have lb := H.lt (w3.heap.size) 0 (.int .i64 y2) (List.Mem.head _)
  go_wp2_with fail
  clear ca0 ca1 ca2 la cb0 cb1 cb2 lb
  (with_reducible refine (F2.out _).mono ?_)
  rintro e w5 ⟨rfl, hb⟩
  replace H := H.below hb
  clear hb
  have ca0 := H.cell (w2.heap.size) 0 (.int .i64 y1) (List.Mem.tail _ (List.Mem.tail _ (List.Mem.tail _ (List.Mem.tail _ (List.Mem.tail _ (List.Mem.tail _ (List.Mem.head _)))))))
  have ca1 := H.cell (w2.heap.size) 1 (.int .i64 m1) (List.Mem.tail _ (List.Mem.tail _ (List.Mem.tail _ (List.Mem.tail _ (List.Mem.tail _ (List.Mem.tail _ (List.Mem.tail _ (List.Mem.head _))))))))
  have ca2 := H.cell (w2.heap.size) 2 (.int .i64 31) (List.Mem.tail _ (List.Mem.tail _ (List.Mem.tail _ (List.Mem.tail _ (List.Mem.tail _ (List.Mem.tail _ (List.Mem.tail _ (List.Mem.tail _ (List.Mem.head _)))))))))
  have la := H.lt (w2.heap.size) 0 (.int .i64 y1) (List.Mem.tail _ (List.Mem.tail _ (List.Mem.tail _ (List.Mem.tail _ (List.Mem.tail _ (List.Mem.tail _ (List.Mem.head _)))))))
  have cb0 := H.cell (w3.heap.size) 0 (.int .i64 y2) (List.Mem.head _)
  have cb1 := H.cell (w3.heap.size) 1 (.int .i64 m2) (List.Mem.tail _ (List.Mem.head _))
  have cb2 := H.cell (w3.heap.size) 2 (.int .i64 d2) (List.Mem.tail _ (List.Mem.tail _ (List.Mem.head _)))
  have lb := H.lt (w3.heap.size) 0 (.int .i64 y2) (List.Mem.head _)
  go_wp2_with fail
  clear ca0 ca1 ca2 la cb0 cb1 cb2 lb
  (with_reducible refine (rpart_any y1 m1 31 y2 m2 d2 30 d2 p q _ ⟨u1, u2⟩ ⟨v1, v2⟩ ⟨u3, u4⟩ ⟨v3, v4⟩ (by omega) (by omega) HP.out HQ.out).mono ?_)
  rintro e w6 ⟨rfl, hb⟩
  replace H := H.below hb
  clear hb
  have cz0 := H.cell (w.heap.size) 0 (.int .i64 0) (List.Mem.tail _ (List.Mem.tail _ (List.Mem.tail _ (List.Mem.tail _ (List.Mem.tail _ (List.Mem.tail _ (List.Mem.tail _ (List.Mem.tail _ (List.Mem.tail _ (List.Mem.tail _ (List.Mem.tail _ (List.Mem.tail _ (List.Mem.head _)))))))))))))
  have cz1 := H.cell (w.heap.size) 1 (.int .i64 0) (List.Mem.tail _ (List.Mem.tail _ (List.Mem.tail _ (List.Mem.tail _ (List.Mem.tail _ (List.Mem.tail _ (List.Mem.tail _ (List.Mem.tail _ (List.Mem.tail _ (List.Mem.tail _ (List.Mem.tail _ (List.Mem.tail _ (List.Mem.tail _ (List.Mem.head _))))))))))))))
  have lz := H.lt (w.heap.size) 0 (.int .i64 0) (List.Mem.tail _ (List.Mem.tail _ (List.Mem.tail _ (List.Mem.tail _ (List.Mem.tail _ (List.Mem.tail _ (List.Mem.tail _ (List.Mem.tail _ (List.Mem.tail _ (List.Mem.tail _ (List.Mem.tail _ (List.Mem.tail _ (List.Mem.head _)))))))))))))
  have fz0 := H.frozen (w.heap.size) 0 (List.Mem.tail _ (List.Mem.tail _ (List.Mem.tail _ (List.Mem.tail _ (List.Mem.tail _ (List.Mem.tail _ (List.Mem.tail _ (List.Mem.tail _ (List.Mem.tail _ (List.Mem.tail _ (List.Mem.tail _ (List.Mem.tail _ (List.Mem.tail _ (List.Mem.tail _ (List.Mem.head _)))))))))))))))
  have fz1 := H.frozen (w.heap.size) 1 (List.Mem.tail _ (List.Mem.tail _ (List.Mem.tail _ (List.Mem.tail _ (List.Mem.tail _ (List.Mem.tail _ (List.Mem.tail _ (List.Mem.tail _ (List.Mem.tail _ (List.Mem.tail _ (List.Mem.tail _ (List.Mem.tail _ (List.Mem.tail _ (List.Mem.tail _ (List.Mem.tail _ (List.Mem.head _))))))))))))))))
  have HK := H.old
  clear H
  go_wp2_with fail
  exact bodyPost_ret (v := .tuple #[.agg #[.int .i64 p, .int .i64 q], .int .i64 0]) (by simp [results, Tryd.results11, go_sem, cz0, cz1]) rfl ⟨rfl, (HK.setCell (by simp <;> omega) _).setCell (by simp <;> omega) _⟩

set_option maxHeartbeats 1000000 in
theorem rus_n3031 (a b y1 m1 y2 m2 p q : Int) (g1 : Bool) (g2 : Bool) (w : World) (h1 : may y1 m1 30) (ha : nb y1 m1 30 = a) (h2 : may y2 m2 31) (hb : nb y2 m2 31 = b) (hab : a ≤ b) (hf1 : febB y1 m1 30 = g1) (hf2 : febB y2 m2 31 = g2) (hp : rN (px y1 m1 30 y2 m2 30) 360 = p) (hq : rD (px y1 m1 30 y2 m2 30) 360 = q) :
    Calls Tryd.prog 11 #[.int .i64 a, .int .i64 b, .bool false] w fun e' w' => e' = .returned (.tuple #[.agg #[.int .i64 p, .int .i64 q], .int .i64 0]) ∧ Below w.heap.size w w' := by
  have H := Held.start w
  have b1 := nb_bd _ _ _ h1
  have b2 := nb_bd _ _ _ h2
  rw [ha] at b1
  rw [hb] at b2
  have W1 : Hid (WhyIs a b 0) := Lib.hid (Or.inr (Or.inr ⟨b1, b2, hab, rfl⟩))
  have O1 : Hid (DayIs a y1 m1 30 0) := Lib.hid (Or.inl ⟨h1, ha, rfl⟩)
  have O2 : Hid (DayIs b y2 m2 31 0) := Lib.hid (Or.inl ⟨h2, hb, rfl⟩)
  have l1 := ln_le y1 m1
  have l2 := ln_le y2 m2
  obtain ⟨u1, u2, u3, u4, u5, u6⟩ := h1
  obtain ⟨v1, v2, v3, v4, v5, v6⟩ := h2
  have w1 : 0 ≤ 30 ∧ 30 ≤ 31 := by omega
  have w2 : 0 ≤ 31 ∧ 31 ≤ 31 := by omega
  clear l1 l2
  have HP := Lib.hid hp
  have HQ := Lib.hid hq
  clear hp hq
  have F1 : Hid (∀ v, Calls Tryd.prog 33 #[.int .i64 a, .agg #[.int .i64 y1, .int .i64 m1, .int .i64 30]] v fun e w' => e = .returned (.bool g1) ∧ Below v.heap.size v w') := Lib.hid (fun v => rfeb_is a y1 m1 30 g1 v ⟨u1, u2, u3, u4, u5, u6⟩ ha hf1)
  have F2 : Hid (∀ v, Calls Tryd.prog 33 #[.int .i64 b, .agg #[.int .i64 y2, .int .i64 m2, .int .i64 31]] v fun e w' => e = .returned (.bool g2) ∧ Below v.heap.size v w') := Lib.hid (fun v => rfeb_is b y2 m2 31 g2 v ⟨v1, v2, v3, v4, v5, v6⟩ hb hf2)
  clear hf1 hf2
  clear ha hb hab u6 v6
  go_enter Tryd.func11, Tryd.ntmps11
  go_wp2_with fail
  replace H := (H.pair (w.heap.size) (.int .i64 0) (.int .i64 0) 26 rfl)
  (with_reducible refine (rwhy_any a b 0 _ W1.out).mono ?_)
  rintro e w1 ⟨rfl, hb⟩
  replace H := H.below hb
  clear hb
  go_wp2_with fail
  (with_reducible refine (rof_any a y1 m1 30 0 _ O1.out).mono ?_)
  rintro e w2 ⟨rfl, hb⟩
  replace H := H.below hb
  clear hb
  go_wp2_with fail
  replace H := (H.triple (w2.heap.size) (.int .i64 y1) (.int .i64 m1) (.int .i64 30) 41 rfl)
  (with_reducible refine (rof_any b y2 m2 31 0 _ O2.out).mono ?_)
  rintro e w3 ⟨rfl, hb⟩
  replace H := H.below hb
  clear hb
  have ca0 := H.cell (w2.heap.size) 0 (.int .i64 y1) (List.Mem.head _)
  have ca1 := H.cell (w2.heap.size) 1 (.int .i64 m1) (List.Mem.tail _ (List.Mem.head _))
  have ca2 := H.cell (w2.heap.size) 2 (.int .i64 30) (List.Mem.tail _ (List.Mem.tail _ (List.Mem.head _)))
  have la := H.lt (w2.heap.size) 0 (.int .i64 y1) (List.Mem.head _)
  go_wp2_with fail
  clear ca0 ca1 ca2 la
  replace H := (H.triple (w3.heap.size) (.int .i64 y2) (.int .i64 m2) (.int .i64 31) 41 rfl)
  (with_reducible refine (F1.out _).mono ?_)
  rintro e w4 ⟨rfl, hb⟩
  replace H := H.below hb
  clear hb
  have ca0 := H.cell (w2.heap.size) 0 (.int .i64 y1) (List.Mem.tail _ (List.Mem.tail _ (List.Mem.tail _ (List.Mem.tail _ (List.Mem.tail _ (List.Mem.tail _ (List.Mem.head _)))))))
  have ca1 := H.cell (w2.heap.size) 1 (.int .i64 m1) (List.Mem.tail _ (List.Mem.tail _ (List.Mem.tail _ (List.Mem.tail _ (List.Mem.tail _ (List.Mem.tail _ (List.Mem.tail _ (List.Mem.head _))))))))
  have ca2 := H.cell (w2.heap.size) 2 (.int .i64 30) (List.Mem.tail _ (List.Mem.tail _ (List.Mem.tail _ (List.Mem.tail _ (List.Mem.tail _ (List.Mem.tail _ (List.Mem.tail _ (List.Mem.tail _ (List.Mem.head _)))))))))
  have la := H.lt (w2.heap.size) 0 (.int .i64 y1) (List.Mem.tail _ (List.Mem.tail _ (List.Mem.tail _ (List.Mem.tail _ (List.Mem.tail _ (List.Mem.tail _ (List.Mem.head _)))))))
  have cb0 := H.cell (w3.heap.size) 0 (.int .i64 y2) (List.Mem.head _)
  have cb1 := H.cell (w3.heap.size) 1 (.int .i64 m2) (List.Mem.tail _ (List.Mem.head _))
  have cb2 := H.cell (w3.heap.size) 2 (.int .i64 31) (List.Mem.tail _ (List.Mem.tail _ (List.Mem.head _)))
  have lb := H.lt (w3.heap.size) 0 (.int .i64 y2) (List.Mem.head _)
  go_wp2_with fail
  clear ca0 ca1 ca2 la cb0 cb1 cb2 lb
  (with_reducible refine (F2.out _).mono ?_)
  rintro e w5 ⟨rfl, hb⟩
  replace H := H.below hb
  clear hb
  have ca0 := H.cell (w2.heap.size) 0 (.int .i64 y1) (List.Mem.tail _ (List.Mem.tail _ (List.Mem.tail _ (List.Mem.tail _ (List.Mem.tail _ (List.Mem.tail _ (List.Mem.head _)))))))
  have ca1 := H.cell (w2.heap.size) 1 (.int .i64 m1) (List.Mem.tail _ (List.Mem.tail _ (List.Mem.tail _ (List.Mem.tail _ (List.Mem.tail _ (List.Mem.tail _ (List.Mem.tail _ (List.Mem.head _))))))))
  have ca2 := H.cell (w2.heap.size) 2 (.int .i64 30) (List.Mem.tail _ (List.Mem.tail _ (List.Mem.tail _ (List.Mem.tail _ (List.Mem.tail _ (List.Mem.tail _ (List.Mem.tail _ (List.Mem.tail _ (List.Mem.head _)))))))))
  have la := H.lt (w2.heap.size) 0 (.int .i64 y1) (List.Mem.tail _ (List.Mem.tail _ (List.Mem.tail _ (List.Mem.tail _ (List.Mem.tail _ (List.Mem.tail _ (List.Mem.head _)))))))
  have cb0 := H.cell (w3.heap.size) 0 (.int .i64 y2) (List.Mem.head _)
  have cb1 := H.cell (w3.heap.size) 1 (.int .i64 m2) (List.Mem.tail _ (List.Mem.head _))
  have cb2 := H.cell (w3.heap.size) 2 (.int .i64 31) (List.Mem.tail _ (List.Mem.tail _ (List.Mem.head _)))
  have lb := H.lt (w3.heap.size) 0 (.int .i64 y2) (List.Mem.head _)
  go_wp2_with fail
  clear ca0 ca1 ca2 la cb0 cb1 cb2 lb
  (with_reducible refine (rpart_any y1 m1 30 y2 m2 31 30 30 p q _ ⟨u1, u2⟩ ⟨v1, v2⟩ ⟨u3, u4⟩ ⟨v3, v4⟩ (by omega) (by omega) HP.out HQ.out).mono ?_)
  rintro e w6 ⟨rfl, hb⟩
  replace H := H.below hb
  clear hb
  have cz0 := H.cell (w.heap.size) 0 (.int .i64 0) (List.Mem.tail _ (List.Mem.tail _ (List.Mem.tail _ (List.Mem.tail _ (List.Mem.tail _ (List.Mem.tail _ (List.Mem.tail _ (List.Mem.tail _ (List.Mem.tail _ (List.Mem.tail _ (List.Mem.tail _ (List.Mem.tail _ (List.Mem.head _)))))))))))))
  have cz1 := H.cell (w.heap.size) 1 (.int .i64 0) (List.Mem.tail _ (List.Mem.tail _ (List.Mem.tail _ (List.Mem.tail _ (List.Mem.tail _ (List.Mem.tail _ (List.Mem.tail _ (List.Mem.tail _ (List.Mem.tail _ (List.Mem.tail _ (List.Mem.tail _ (List.Mem.tail _ (List.Mem.tail _ (List.Mem.head _))))))))))))))
  have lz := H.lt (w.heap.size) 0 (.int .i64 0) (List.Mem.tail _ (List.Mem.tail _ (List.Mem.tail _ (List.Mem.tail _ (List.Mem.tail _ (List.Mem.tail _ (List.Mem.tail _ (List.Mem.tail _ (List.Mem.tail _ (List.Mem.tail _ (List.Mem.tail _ (List.Mem.tail _ (List.Mem.head _)))))))))))))
  have fz0 := H.frozen (w.heap.size) 0 (List.Mem.tail _ (List.Mem.tail _ (List.Mem.tail _ (List.Mem.tail _ (List.Mem.tail _ (List.Mem.tail _ (List.Mem.tail _ (List.Mem.tail _ (List.Mem.tail _ (List.Mem.tail _ (List.Mem.tail _ (List.Mem.tail _ (List.Mem.tail _ (List.Mem.tail _ (List.Mem.head _)))))))))))))))
  have fz1 := H.frozen (w.heap.size) 1 (List.Mem.tail _ (List.Mem.tail _ (List.Mem.tail _ (List.Mem.tail _ (List.Mem.tail _ (List.Mem.tail _ (List.Mem.tail _ (List.Mem.tail _ (List.Mem.tail _ (List.Mem.tail _ (List.Mem.tail _ (List.Mem.tail _ (List.Mem.tail _ (List.Mem.tail _ (List.Mem.tail _ (List.Mem.head _))))))))))))))))
  have HK := H.old
  clear H
  go_wp2_with fail
  exact bodyPost_ret (v := .tuple #[.agg #[.int .i64 p, .int .i64 q], .int .i64 0]) (by simp [results, Tryd.results11, go_sem, cz0, cz1]) rfl ⟨rfl, (HK.setCell (by simp <;> omega) _).setCell (by simp <;> omega) _⟩

set_option maxHeartbeats 1000000 in
theorem rus_n30d2 (a b y1 m1 y2 m2 d2 p q : Int) (g1 : Bool) (g2 : Bool) (w : World) (h1 : may y1 m1 30) (ha : nb y1 m1 30 = a) (h2 : may y2 m2 d2) (hb : nb y2 m2 d2 = b) (hab : a ≤ b) (hf1 : febB y1 m1 30 = g1) (hf2 : febB y2 m2 d2 = g2) (n2 : d2 ≠ 31) (hp : rN (px y1 m1 30 y2 m2 d2) 360 = p) (hq : rD (px y1 m1 30 y2 m2 d2) 360 = q) :
    Calls Tryd.prog 11 #[.int .i64 a, .int .i64 b, .bool false] w fun e' w' => e' = .returned (.tuple #[.agg #[.int .i64 p, .int .i64 q], .int .i64 0]) ∧ Below w.heap.size w w' := by
  have H := Held.start w
  have b1 := nb_bd _ _ _ h1
  have b2 := nb_bd _ _ _ h2
  rw [ha] at b1
  rw [hb] at b2
  have W1 : Hid (WhyIs a b 0) := Lib.hid (Or.inr (Or.inr ⟨b1, b2, hab, rfl⟩))
  have O1 : Hid (DayIs a y1 m1 30 0) := Lib.hid (Or.inl ⟨h1, ha, rfl⟩)
  have O2 : Hid (DayIs b y2 m2 d2 0) := Lib.hid (Or.inl ⟨h2, hb, rfl⟩)
  have l1 := ln_le y1 m1
  have l2 := ln_le y2 m2
  obtain ⟨u1, u2, u3, u4, u5, u6⟩ := h1
  obtain ⟨v1, v2, v3, v4, v5, v6⟩ := h2
  have w1 : 0 ≤ 30 ∧ 30 ≤ 31 := by omega
  have w2 : 0 ≤ d2 ∧ d2 ≤ 31 := by omega
  clear l1 l2
  have HP := Lib.hid hp
  have HQ := Lib.hid hq
  clear hp hq
  have F1 : Hid (∀ v, Calls Tryd.prog 33 #[.int .i64 a, .agg #[.int .i64 y1, .int .i64 m1, .int .i64 30]] v fun e w' => e = .returned (.bool g1) ∧ Below v.heap.size v w') := Lib.hid (fun v => rfeb_is a y1 m1 30 g1 v ⟨u1, u2, u3, u4, u5, u6⟩ ha hf1)
  have F2 : Hid (∀ v, Calls Tryd.prog 33 #[.int .i64 b, .agg #[.int .i64 y2, .int .i64 m2, .int .i64 d2]] v fun e w' => e = .returned (.bool g2) ∧ Below v.heap.size v w') := Lib.hid (fun v => rfeb_is b y2 m2 d2 g2 v ⟨v1, v2, v3, v4, v5, v6⟩ hb hf2)
  clear hf1 hf2
  have t2 : (d2 == 31) = false := beq_eq_false_iff_ne.2 n2
  clear ha hb hab u6 v6
  go_enter Tryd.func11, Tryd.ntmps11
  go_wp2_with fail
  replace H := (H.pair (w.heap.size) (.int .i64 0) (.int .i64 0) 26 rfl)
  (with_reducible refine (rwhy_any a b 0 _ W1.out).mono ?_)
  rintro e w1 ⟨rfl, hb⟩
  replace H := H.below hb
  clear hb
  go_wp2_with fail
  (with_reducible refine (rof_any a y1 m1 30 0 _ O1.out).mono ?_)
  rintro e w2 ⟨rfl, hb⟩
  replace H := H.below hb
  clear hb
  go_wp2_with fail
  replace H := (H.triple (w2.heap.size) (.int .i64 y1) (.int .i64 m1) (.int .i64 30) 41 rfl)
  (with_reducible refine (rof_any b y2 m2 d2 0 _ O2.out).mono ?_)
  rintro e w3 ⟨rfl, hb⟩
  replace H := H.below hb
  clear hb
  have ca0 := H.cell (w2.heap.size) 0 (.int .i64 y1) (List.Mem.head _)
  have ca1 := H.cell (w2.heap.size) 1 (.int .i64 m1) (List.Mem.tail _ (List.Mem.head _))
  have ca2 := H.cell (w2.heap.size) 2 (.int .i64 30) (List.Mem.tail _ (List.Mem.tail _ (List.Mem.head _)))
  have la := H.lt (w2.heap.size) 0 (.int .i64 y1) (List.Mem.head _)
  go_wp2_with fail
  clear ca0 ca1 ca2 la
  replace H := (H.triple (w3.heap.size) (.int .i64 y2) (.int .i64 m2) (.int .i64 d2) 41 rfl)
  (with_reducible refine (F1.out _).mono ?_)
  rintro e w4 ⟨rfl, hb⟩
  replace H := H.below hb
  clear hb
  have ca0 := H.cell (w2.heap.size) 0 (.int .i64 y1) (List.Mem.tail _ (List.Mem.tail _ (List.Mem.tail _ (List.Mem.tail _ (List.Mem.tail _ (List.Mem.tail _ (List.Mem.head _)))))))
  have ca1 := H.cell (w2.heap.size) 1 (.int .i64 m1) (List.Mem.tail _ (List.Mem.tail _ (List.Mem.tail _ (List.Mem.tail _ (List.Mem.tail _ (List.Mem.tail _ (List.Mem.tail _ (List.Mem.head _))))))))
  have ca2 := H.cell (w2.heap.size) 2 (.int .i64 30) (List.Mem.tail _ (List.Mem.tail _ (List.Mem.tail _ (List.Mem.tail _ (List.Mem.tail _ (List.Mem.tail _ (List.Mem.tail _ (List.Mem.tail _ (List.Mem.head _)))))))))
  have la := H.lt (w2.heap.size) 0 (.int .i64 y1) (List.Mem.tail _ (List.Mem.tail _ (List.Mem.tail _ (List.Mem.tail _ (List.Mem.tail _ (List.Mem.tail _ (List.Mem.head _)))))))
  have cb0 := H.cell (w3.heap.size) 0 (.int .i64 y2) (List.Mem.head _)
  have cb1 := H.cell (w3.heap.size) 1 (.int .i64 m2) (List.Mem.tail _ (List.Mem.head _))
  have cb2 := H.cell (w3.heap.size) 2 (.int .i64 d2) (List.Mem.tail _ (List.Mem.tail _ (List.Mem.head _)))
  have lb := H.lt (w3.heap.size) 0 (.int .i64 y2) (List.Mem.head _)
  go_wp2_with fail
  clear ca0 ca1 ca2 la cb0 cb1 cb2 lb
  (with_reducible refine (F2.out _).mono ?_)
  rintro e w5 ⟨rfl, hb⟩
  replace H := H.below hb
  clear hb
  have ca0 := H.cell (w2.heap.size) 0 (.int .i64 y1) (List.Mem.tail _ (List.Mem.tail _ (List.Mem.tail _ (List.Mem.tail _ (List.Mem.tail _ (List.Mem.tail _ (List.Mem.head _)))))))
  have ca1 := H.cell (w2.heap.size) 1 (.int .i64 m1) (List.Mem.tail _ (List.Mem.tail _ (List.Mem.tail _ (List.Mem.tail _ (List.Mem.tail _ (List.Mem.tail _ (List.Mem.tail _ (List.Mem.head _))))))))
  have ca2 := H.cell (w2.heap.size) 2 (.int .i64 30) (List.Mem.tail _ (List.Mem.tail _ (List.Mem.tail _ (List.Mem.tail _ (List.Mem.tail _ (List.Mem.tail _ (List.Mem.tail _ (List.Mem.tail _ (List.Mem.head _)))))))))
  have la := H.lt (w2.heap.size) 0 (.int .i64 y1) (List.Mem.tail _ (List.Mem.tail _ (List.Mem.tail _ (List.Mem.tail _ (List.Mem.tail _ (List.Mem.tail _ (List.Mem.head _)))))))
  have cb0 := H.cell (w3.heap.size) 0 (.int .i64 y2) (List.Mem.head _)
  have cb1 := H.cell (w3.heap.size) 1 (.int .i64 m2) (List.Mem.tail _ (List.Mem.head _))
  have cb2 := H.cell (w3.heap.size) 2 (.int .i64 d2) (List.Mem.tail _ (List.Mem.tail _ (List.Mem.head _)))
  have lb := H.lt (w3.heap.size) 0 (.int .i64 y2) (List.Mem.head _)
  go_wp2_with fail
  clear ca0 ca1 ca2 la cb0 cb1 cb2 lb
  (with_reducible refine (rpart_any y1 m1 30 y2 m2 d2 30 d2 p q _ ⟨u1, u2⟩ ⟨v1, v2⟩ ⟨u3, u4⟩ ⟨v3, v4⟩ (by omega) (by omega) HP.out HQ.out).mono ?_)
  rintro e w6 ⟨rfl, hb⟩
  replace H := H.below hb
  clear hb
  have cz0 := H.cell (w.heap.size) 0 (.int .i64 0) (List.Mem.tail _ (List.Mem.tail _ (List.Mem.tail _ (List.Mem.tail _ (List.Mem.tail _ (List.Mem.tail _ (List.Mem.tail _ (List.Mem.tail _ (List.Mem.tail _ (List.Mem.tail _ (List.Mem.tail _ (List.Mem.tail _ (List.Mem.head _)))))))))))))
  have cz1 := H.cell (w.heap.size) 1 (.int .i64 0) (List.Mem.tail _ (List.Mem.tail _ (List.Mem.tail _ (List.Mem.tail _ (List.Mem.tail _ (List.Mem.tail _ (List.Mem.tail _ (List.Mem.tail _ (List.Mem.tail _ (List.Mem.tail _ (List.Mem.tail _ (List.Mem.tail _ (List.Mem.tail _ (List.Mem.head _))))))))))))))
  have lz := H.lt (w.heap.size) 0 (.int .i64 0) (List.Mem.tail _ (List.Mem.tail _ (List.Mem.tail _ (List.Mem.tail _ (List.Mem.tail _ (List.Mem.tail _ (List.Mem.tail _ (List.Mem.tail _ (List.Mem.tail _ (List.Mem.tail _ (List.Mem.tail _ (List.Mem.tail _ (List.Mem.head _)))))))))))))
  have fz0 := H.frozen (w.heap.size) 0 (List.Mem.tail _ (List.Mem.tail _ (List.Mem.tail _ (List.Mem.tail _ (List.Mem.tail _ (List.Mem.tail _ (List.Mem.tail _ (List.Mem.tail _ (List.Mem.tail _ (List.Mem.tail _ (List.Mem.tail _ (List.Mem.tail _ (List.Mem.tail _ (List.Mem.tail _ (List.Mem.head _)))))))))))))))
  have fz1 := H.frozen (w.heap.size) 1 (List.Mem.tail _ (List.Mem.tail _ (List.Mem.tail _ (List.Mem.tail _ (List.Mem.tail _ (List.Mem.tail _ (List.Mem.tail _ (List.Mem.tail _ (List.Mem.tail _ (List.Mem.tail _ (List.Mem.tail _ (List.Mem.tail _ (List.Mem.tail _ (List.Mem.tail _ (List.Mem.tail _ (List.Mem.head _))))))))))))))))
  have HK := H.old
  clear H
  go_wp2_with fail
  exact bodyPost_ret (v := .tuple #[.agg #[.int .i64 p, .int .i64 q], .int .i64 0]) (by simp [results, Tryd.results11, go_sem, cz0, cz1]) rfl ⟨rfl, (HK.setCell (by simp <;> omega) _).setCell (by simp <;> omega) _⟩

set_option maxHeartbeats 1000000 in
theorem rus_nd131 (a b y1 m1 d1 y2 m2 p q : Int) (g1 : Bool) (g2 : Bool) (w : World) (h1 : may y1 m1 d1) (ha : nb y1 m1 d1 = a) (h2 : may y2 m2 31) (hb : nb y2 m2 31 = b) (hab : a ≤ b) (hf1 : febB y1 m1 d1 = g1) (hf2 : febB y2 m2 31 = g2) (n1 : d1 ≠ 31) (n3 : d1 ≠ 30) (hp : rN (px y1 m1 d1 y2 m2 31) 360 = p) (hq : rD (px y1 m1 d1 y2 m2 31) 360 = q) :
    Calls Tryd.prog 11 #[.int .i64 a, .int .i64 b, .bool false] w fun e' w' => e' = .returned (.tuple #[.agg #[.int .i64 p, .int .i64 q], .int .i64 0]) ∧ Below w.heap.size w w' := by
  have H := Held.start w
  have b1 := nb_bd _ _ _ h1
  have b2 := nb_bd _ _ _ h2
  rw [ha] at b1
  rw [hb] at b2
  have W1 : Hid (WhyIs a b 0) := Lib.hid (Or.inr (Or.inr ⟨b1, b2, hab, rfl⟩))
  have O1 : Hid (DayIs a y1 m1 d1 0) := Lib.hid (Or.inl ⟨h1, ha, rfl⟩)
  have O2 : Hid (DayIs b y2 m2 31 0) := Lib.hid (Or.inl ⟨h2, hb, rfl⟩)
  have l1 := ln_le y1 m1
  have l2 := ln_le y2 m2
  obtain ⟨u1, u2, u3, u4, u5, u6⟩ := h1
  obtain ⟨v1, v2, v3, v4, v5, v6⟩ := h2
  have w1 : 0 ≤ d1 ∧ d1 ≤ 31 := by omega
  have w2 : 0 ≤ 31 ∧ 31 ≤ 31 := by omega
  clear l1 l2
  have HP := Lib.hid hp
  have HQ := Lib.hid hq
  clear hp hq
  have F1 : Hid (∀ v, Calls Tryd.prog 33 #[.int .i64 a, .agg #[.int .i64 y1, .int .i64 m1, .int .i64 d1]] v fun e w' => e = .returned (.bool g1) ∧ Below v.heap.size v w') := Lib.hid (fun v => rfeb_is a y1 m1 d1 g1 v ⟨u1, u2, u3, u4, u5, u6⟩ ha hf1)
  have F2 : Hid (∀ v, Calls Tryd.prog 33 #[.int .i64 b, .agg #[.int .i64 y2, .int .i64 m2, .int .i64 31]] v fun e w' => e = .returned (.bool g2) ∧ Below v.heap.size v w') := Lib.hid (fun v => rfeb_is b y2 m2 31 g2 v ⟨v1, v2, v3, v4, v5, v6⟩ hb hf2)
  clear hf1 hf2
  have t1 : (d1 == 31) = false := beq_eq_false_iff_ne.2 n1
  have t3 : (d1 == 30) = false := beq_eq_false_iff_ne.2 n3
  clear ha hb hab u6 v6
  go_enter Tryd.func11, Tryd.ntmps11
  go_wp2_with fail
  replace H := (H.pair (w.heap.size) (.int .i64 0) (.int .i64 0) 26 rfl)
  (with_reducible refine (rwhy_any a b 0 _ W1.out).mono ?_)
  rintro e w1 ⟨rfl, hb⟩
  replace H := H.below hb
  clear hb
  go_wp2_with fail
  (with_reducible refine (rof_any a y1 m1 d1 0 _ O1.out).mono ?_)
  rintro e w2 ⟨rfl, hb⟩
  replace H := H.below hb
  clear hb
  go_wp2_with fail
  replace H := (H.triple (w2.heap.size) (.int .i64 y1) (.int .i64 m1) (.int .i64 d1) 41 rfl)
  (with_reducible refine (rof_any b y2 m2 31 0 _ O2.out).mono ?_)
  rintro e w3 ⟨rfl, hb⟩
  replace H := H.below hb
  clear hb
  have ca0 := H.cell (w2.heap.size) 0 (.int .i64 y1) (List.Mem.head _)
  have ca1 := H.cell (w2.heap.size) 1 (.int .i64 m1) (List.Mem.tail _ (List.Mem.head _))
  have ca2 := H.cell (w2.heap.size) 2 (.int .i64 d1) (List.Mem.tail _ (List.Mem.tail _ (List.Mem.head _)))
  have la := H.lt (w2.heap.size) 0 (.int .i64 y1) (List.Mem.head _)
  go_wp2_with fail
  clear ca0 ca1 ca2 la
  replace H := (H.triple (w3.heap.size) (.int .i64 y2) (.int .i64 m2) (.int .i64 31) 41 rfl)
  (with_reducible refine (F1.out _).mono ?_)
  rintro e w4 ⟨rfl, hb⟩
  replace H := H.below hb
  clear hb
  have ca0 := H.cell (w2.heap.size) 0 (.int .i64 y1) (List.Mem.tail _ (List.Mem.tail _ (List.Mem.tail _ (List.Mem.tail _ (List.Mem.tail _ (List.Mem.tail _ (List.Mem.head _)))))))
  have ca1 := H.cell (w2.heap.size) 1 (.int .i64 m1) (List.Mem.tail _ (List.Mem.tail _ (List.Mem.tail _ (List.Mem.tail _ (List.Mem.tail _ (List.Mem.tail _ (List.Mem.tail _ (List.Mem.head _))))))))
  have ca2 := H.cell (w2.heap.size) 2 (.int .i64 d1) (List.Mem.tail _ (List.Mem.tail _ (List.Mem.tail _ (List.Mem.tail _ (List.Mem.tail _ (List.Mem.tail _ (List.Mem.tail _ (List.Mem.tail _ (List.Mem.head _)))))))))
  have la := H.lt (w2.heap.size) 0 (.int .i64 y1) (List.Mem.tail _ (List.Mem.tail _ (List.Mem.tail _ (List.Mem.tail _ (List.Mem.tail _ (List.Mem.tail _ (List.Mem.head _)))))))
  have cb0 := H.cell (w3.heap.size) 0 (.int .i64 y2) (List.Mem.head _)
  have cb1 := H.cell (w3.heap.size) 1 (.int .i64 m2) (List.Mem.tail _ (List.Mem.head _))
  have cb2 := H.cell (w3.heap.size) 2 (.int .i64 31) (List.Mem.tail _ (List.Mem.tail _ (List.Mem.head _)))
  have lb := H.lt (w3.heap.size) 0 (.int .i64 y2) (List.Mem.head _)
  go_wp2_with fail
  clear ca0 ca1 ca2 la cb0 cb1 cb2 lb
  (with_reducible refine (F2.out _).mono ?_)
  rintro e w5 ⟨rfl, hb⟩
  replace H := H.below hb
  clear hb
  have ca0 := H.cell (w2.heap.size) 0 (.int .i64 y1) (List.Mem.tail _ (List.Mem.tail _ (List.Mem.tail _ (List.Mem.tail _ (List.Mem.tail _ (List.Mem.tail _ (List.Mem.head _)))))))
  have ca1 := H.cell (w2.heap.size) 1 (.int .i64 m1) (List.Mem.tail _ (List.Mem.tail _ (List.Mem.tail _ (List.Mem.tail _ (List.Mem.tail _ (List.Mem.tail _ (List.Mem.tail _ (List.Mem.head _))))))))
  have ca2 := H.cell (w2.heap.size) 2 (.int .i64 d1) (List.Mem.tail _ (List.Mem.tail _ (List.Mem.tail _ (List.Mem.tail _ (List.Mem.tail _ (List.Mem.tail _ (List.Mem.tail _ (List.Mem.tail _ (List.Mem.head _)))))))))
  have la := H.lt (w2.heap.size) 0 (.int .i64 y1) (List.Mem.tail _ (List.Mem.tail _ (List.Mem.tail _ (List.Mem.tail _ (List.Mem.tail _ (List.Mem.tail _ (List.Mem.head _)))))))
  have cb0 := H.cell (w3.heap.size) 0 (.int .i64 y2) (List.Mem.head _)
  have cb1 := H.cell (w3.heap.size) 1 (.int .i64 m2) (List.Mem.tail _ (List.Mem.head _))
  have cb2 := H.cell (w3.heap.size) 2 (.int .i64 31) (List.Mem.tail _ (List.Mem.tail _ (List.Mem.head _)))
  have lb := H.lt (w3.heap.size) 0 (.int .i64 y2) (List.Mem.head _)
  go_wp2_with fail
  clear ca0 ca1 ca2 la cb0 cb1 cb2 lb
  (with_reducible refine (rpart_any y1 m1 d1 y2 m2 31 d1 31 p q _ ⟨u1, u2⟩ ⟨v1, v2⟩ ⟨u3, u4⟩ ⟨v3, v4⟩ (by omega) (by omega) HP.out HQ.out).mono ?_)
  rintro e w6 ⟨rfl, hb⟩
  replace H := H.below hb
  clear hb
  have cz0 := H.cell (w.heap.size) 0 (.int .i64 0) (List.Mem.tail _ (List.Mem.tail _ (List.Mem.tail _ (List.Mem.tail _ (List.Mem.tail _ (List.Mem.tail _ (List.Mem.tail _ (List.Mem.tail _ (List.Mem.tail _ (List.Mem.tail _ (List.Mem.tail _ (List.Mem.tail _ (List.Mem.head _)))))))))))))
  have cz1 := H.cell (w.heap.size) 1 (.int .i64 0) (List.Mem.tail _ (List.Mem.tail _ (List.Mem.tail _ (List.Mem.tail _ (List.Mem.tail _ (List.Mem.tail _ (List.Mem.tail _ (List.Mem.tail _ (List.Mem.tail _ (List.Mem.tail _ (List.Mem.tail _ (List.Mem.tail _ (List.Mem.tail _ (List.Mem.head _))))))))))))))
  have lz := H.lt (w.heap.size) 0 (.int .i64 0) (List.Mem.tail _ (List.Mem.tail _ (List.Mem.tail _ (List.Mem.tail _ (List.Mem.tail _ (List.Mem.tail _ (List.Mem.tail _ (List.Mem.tail _ (List.Mem.tail _ (List.Mem.tail _ (List.Mem.tail _ (List.Mem.tail _ (List.Mem.head _)))))))))))))
  have fz0 := H.frozen (w.heap.size) 0 (List.Mem.tail _ (List.Mem.tail _ (List.Mem.tail _ (List.Mem.tail _ (List.Mem.tail _ (List.Mem.tail _ (List.Mem.tail _ (List.Mem.tail _ (List.Mem.tail _ (List.Mem.tail _ (List.Mem.tail _ (List.Mem.tail _ (List.Mem.tail _ (List.Mem.tail _ (List.Mem.head _)))))))))))))))
  have fz1 := H.frozen (w.heap.size) 1 (List.Mem.tail _ (List.Mem.tail _ (List.Mem.tail _ (List.Mem.tail _ (List.Mem.tail _ (List.Mem.tail _ (List.Mem.tail _ (List.Mem.tail _ (List.Mem.tail _ (List.Mem.tail _ (List.Mem.tail _ (List.Mem.tail _ (List.Mem.tail _ (List.Mem.tail _ (List.Mem.tail _ (List.Mem.head _))))))))))))))))
  have HK := H.old
  clear H
  go_wp2_with fail
  exact bodyPost_ret (v := .tuple #[.agg #[.int .i64 p, .int .i64 q], .int .i64 0]) (by simp [results, Tryd.results11, go_sem, cz0, cz1]) rfl ⟨rfl, (HK.setCell (by simp <;> omega) _).setCell (by simp <;> omega) _⟩

set_option maxHeartbeats 1000000 in
theorem rus_nd1d2 (a b y1 m1 d1 y2 m2 d2 p q : Int) (g1 : Bool) (g2 : Bool) (w : World) (h1 : may y1 m1 d1) (ha : nb y1 m1 d1 = a) (h2 : may y2 m2 d2) (hb : nb y2 m2 d2 = b) (hab : a ≤ b) (hf1 : febB y1 m1 d1 = g1) (hf2 : febB y2 m2 d2 = g2) (n1 : d1 ≠ 31) (n3 : d1 ≠ 30) (n2 : d2 ≠ 31) (hp : rN (px y1 m1 d1 y2 m2 d2) 360 = p) (hq : rD (px y1 m1 d1 y2 m2 d2) 360 = q) :
    Calls Tryd.prog 11 #[.int .i64 a, .int .i64 b, .bool false] w fun e' w' => e' = .returned (.tuple #[.agg #[.int .i64 p, .int .i64 q], .int .i64 0]) ∧ Below w.heap.size w w' := by
  have H := Held.start w
  have b1 := nb_bd _ _ _ h1
  have b2 := nb_bd _ _ _ h2
  rw [ha] at b1
  rw [hb] at b2
  have W1 : Hid (WhyIs a b 0) := Lib.hid (Or.inr (Or.inr ⟨b1, b2, hab, rfl⟩))
  have O1 : Hid (DayIs a y1 m1 d1 0) := Lib.hid (Or.inl ⟨h1, ha, rfl⟩)
  have O2 : Hid (DayIs b y2 m2 d2 0) := Lib.hid (Or.inl ⟨h2, hb, rfl⟩)
  have l1 := ln_le y1 m1
  have l2 := ln_le y2 m2
  obtain ⟨u1, u2, u3, u4, u5, u6⟩ := h1
  obtain ⟨v1, v2, v3, v4, v5, v6⟩ := h2
  have w1 : 0 ≤ d1 ∧ d1 ≤ 31 := by omega
  have w2 : 0 ≤ d2 ∧ d2 ≤ 31 := by omega
  clear l1 l2
  have HP := Lib.hid hp
  have HQ := Lib.hid hq
  clear hp hq
  have F1 : Hid (∀ v, Calls Tryd.prog 33 #[.int .i64 a, .agg #[.int .i64 y1, .int .i64 m1, .int .i64 d1]] v fun e w' => e = .returned (.bool g1) ∧ Below v.heap.size v w') := Lib.hid (fun v => rfeb_is a y1 m1 d1 g1 v ⟨u1, u2, u3, u4, u5, u6⟩ ha hf1)
  have F2 : Hid (∀ v, Calls Tryd.prog 33 #[.int .i64 b, .agg #[.int .i64 y2, .int .i64 m2, .int .i64 d2]] v fun e w' => e = .returned (.bool g2) ∧ Below v.heap.size v w') := Lib.hid (fun v => rfeb_is b y2 m2 d2 g2 v ⟨v1, v2, v3, v4, v5, v6⟩ hb hf2)
  clear hf1 hf2
  have t1 : (d1 == 31) = false := beq_eq_false_iff_ne.2 n1
  have t3 : (d1 == 30) = false := beq_eq_false_iff_ne.2 n3
  have t2 : (d2 == 31) = false := beq_eq_false_iff_ne.2 n2
  clear ha hb hab u6 v6
  go_enter Tryd.func11, Tryd.ntmps11
  go_wp2_with fail
  replace H := (H.pair (w.heap.size) (.int .i64 0) (.int .i64 0) 26 rfl)
  (with_reducible refine (rwhy_any a b 0 _ W1.out).mono ?_)
  rintro e w1 ⟨rfl, hb⟩
  replace H := H.below hb
  clear hb
  go_wp2_with fail
  (with_reducible refine (rof_any a y1 m1 d1 0 _ O1.out).mono ?_)
  rintro e w2 ⟨rfl, hb⟩
  replace H := H.below hb
  clear hb
  go_wp2_with fail
  replace H := (H.triple (w2.heap.size) (.int .i64 y1) (.int .i64 m1) (.int .i64 d1) 41 rfl)
  (with_reducible refine (rof_any b y2 m2 d2 0 _ O2.out).mono ?_)
  rintro e w3 ⟨rfl, hb⟩
  replace H := H.below hb
  clear hb
  have ca0 := H.cell (w2.heap.size) 0 (.int .i64 y1) (List.Mem.head _)
  have ca1 := H.cell (w2.heap.size) 1 (.int .i64 m1) (List.Mem.tail _ (List.Mem.head _))
  have ca2 := H.cell (w2.heap.size) 2 (.int .i64 d1) (List.Mem.tail _ (List.Mem.tail _ (List.Mem.head _)))
  have la := H.lt (w2.heap.size) 0 (.int .i64 y1) (List.Mem.head _)
  go_wp2_with fail
  clear ca0 ca1 ca2 la
  replace H := (H.triple (w3.heap.size) (.int .i64 y2) (.int .i64 m2) (.int .i64 d2) 41 rfl)
  (with_reducible refine (F1.out _).mono ?_)
  rintro e w4 ⟨rfl, hb⟩
  replace H := H.below hb
  clear hb
  have ca0 := H.cell (w2.heap.size) 0 (.int .i64 y1) (List.Mem.tail _ (List.Mem.tail _ (List.Mem.tail _ (List.Mem.tail _ (List.Mem.tail _ (List.Mem.tail _ (List.Mem.head _)))))))
  have ca1 := H.cell (w2.heap.size) 1 (.int .i64 m1) (List.Mem.tail _ (List.Mem.tail _ (List.Mem.tail _ (List.Mem.tail _ (List.Mem.tail _ (List.Mem.tail _ (List.Mem.tail _ (List.Mem.head _))))))))
  have ca2 := H.cell (w2.heap.size) 2 (.int .i64 d1) (List.Mem.tail _ (List.Mem.tail _ (List.Mem.tail _ (List.Mem.tail _ (List.Mem.tail _ (List.Mem.tail _ (List.Mem.tail _ (List.Mem.tail _ (List.Mem.head _)))))))))
  have la := H.lt (w2.heap.size) 0 (.int .i64 y1) (List.Mem.tail _ (List.Mem.tail _ (List.Mem.tail _ (List.Mem.tail _ (List.Mem.tail _ (List.Mem.tail _ (List.Mem.head _)))))))
  have cb0 := H.cell (w3.heap.size) 0 (.int .i64 y2) (List.Mem.head _)
  have cb1 := H.cell (w3.heap.size) 1 (.int .i64 m2) (List.Mem.tail _ (List.Mem.head _))
  have cb2 := H.cell (w3.heap.size) 2 (.int .i64 d2) (List.Mem.tail _ (List.Mem.tail _ (List.Mem.head _)))
  have lb := H.lt (w3.heap.size) 0 (.int .i64 y2) (List.Mem.head _)
  go_wp2_with fail
  clear ca0 ca1 ca2 la cb0 cb1 cb2 lb
  (with_reducible refine (F2.out _).mono ?_)
  rintro e w5 ⟨rfl, hb⟩
  replace H := H.below hb
  clear hb
  have ca0 := H.cell (w2.heap.size) 0 (.int .i64 y1) (List.Mem.tail _ (List.Mem.tail _ (List.Mem.tail _ (List.Mem.tail _ (List.Mem.tail _ (List.Mem.tail _ (List.Mem.head _)))))))
  have ca1 := H.cell (w2.heap.size) 1 (.int .i64 m1) (List.Mem.tail _ (List.Mem.tail _ (List.Mem.tail _ (List.Mem.tail _ (List.Mem.tail _ (List.Mem.tail _ (List.Mem.tail _ (List.Mem.head _))))))))
  have ca2 := H.cell (w2.heap.size) 2 (.int .i64 d1) (List.Mem.tail _ (List.Mem.tail _ (List.Mem.tail _ (List.Mem.tail _ (List.Mem.tail _ (List.Mem.tail _ (List.Mem.tail _ (List.Mem.tail _ (List.Mem.head _)))))))))
  have la := H.lt (w2.heap.size) 0 (.int .i64 y1) (List.Mem.tail _ (List.Mem.tail _ (List.Mem.tail _ (List.Mem.tail _ (List.Mem.tail _ (List.Mem.tail _ (List.Mem.head _)))))))
  have cb0 := H.cell (w3.heap.size) 0 (.int .i64 y2) (List.Mem.head _)
  have cb1 := H.cell (w3.heap.size) 1 (.int .i64 m2) (List.Mem.tail _ (List.Mem.head _))
  have cb2 := H.cell (w3.heap.size) 2 (.int .i64 d2) (List.Mem.tail _ (List.Mem.tail _ (List.Mem.head _)))
  have lb := H.lt (w3.heap.size) 0 (.int .i64 y2) (List.Mem.head _)
  go_wp2_with fail
  clear ca0 ca1 ca2 la cb0 cb1 cb2 lb
  (with_reducible refine (rpart_any y1 m1 d1 y2 m2 d2 d1 d2 p q _ ⟨u1, u2⟩ ⟨v1, v2⟩ ⟨u3, u4⟩ ⟨v3, v4⟩ (by omega) (by omega) HP.out HQ.out).mono ?_)
  rintro e w6 ⟨rfl, hb⟩
  replace H := H.below hb
  clear hb
  have cz0 := H.cell (w.heap.size) 0 (.int .i64 0) (List.Mem.tail _ (List.Mem.tail _ (List.Mem.tail _ (List.Mem.tail _ (List.Mem.tail _ (List.Mem.tail _ (List.Mem.tail _ (List.Mem.tail _ (List.Mem.tail _ (List.Mem.tail _ (List.Mem.tail _ (List.Mem.tail _ (List.Mem.head _)))))))))))))
  have cz1 := H.cell (w.heap.size) 1 (.int .i64 0) (List.Mem.tail _ (List.Mem.tail _ (List.Mem.tail _ (List.Mem.tail _ (List.Mem.tail _ (List.Mem.tail _ (List.Mem.tail _ (List.Mem.tail _ (List.Mem.tail _ (List.Mem.tail _ (List.Mem.tail _ (List.Mem.tail _ (List.Mem.tail _ (List.Mem.head _))))))))))))))
  have lz := H.lt (w.heap.size) 0 (.int .i64 0) (List.Mem.tail _ (List.Mem.tail _ (List.Mem.tail _ (List.Mem.tail _ (List.Mem.tail _ (List.Mem.tail _ (List.Mem.tail _ (List.Mem.tail _ (List.Mem.tail _ (List.Mem.tail _ (List.Mem.tail _ (List.Mem.tail _ (List.Mem.head _)))))))))))))
  have fz0 := H.frozen (w.heap.size) 0 (List.Mem.tail _ (List.Mem.tail _ (List.Mem.tail _ (List.Mem.tail _ (List.Mem.tail _ (List.Mem.tail _ (List.Mem.tail _ (List.Mem.tail _ (List.Mem.tail _ (List.Mem.tail _ (List.Mem.tail _ (List.Mem.tail _ (List.Mem.tail _ (List.Mem.tail _ (List.Mem.head _)))))))))))))))
  have fz1 := H.frozen (w.heap.size) 1 (List.Mem.tail _ (List.Mem.tail _ (List.Mem.tail _ (List.Mem.tail _ (List.Mem.tail _ (List.Mem.tail _ (List.Mem.tail _ (List.Mem.tail _ (List.Mem.tail _ (List.Mem.tail _ (List.Mem.tail _ (List.Mem.tail _ (List.Mem.tail _ (List.Mem.tail _ (List.Mem.tail _ (List.Mem.head _))))))))))))))))
  have HK := H.old
  clear H
  go_wp2_with fail
  exact bodyPost_ret (v := .tuple #[.agg #[.int .i64 p, .int .i64 q], .int .i64 0]) (by simp [results, Tryd.results11, go_sem, cz0, cz1]) rfl ⟨rfl, (HK.setCell (by simp <;> omega) _).setCell (by simp <;> omega) _⟩

set_option maxHeartbeats 1000000 in
theorem rus_m3131 (a b y1 m1 y2 m2 p q : Int) (g2 : Bool) (w : World) (h1 : may y1 m1 31) (ha : nb y1 m1 31 = a) (h2 : may y2 m2 31) (hb : nb y2 m2 31 = b) (hab : a ≤ b) (hf1 : febB y1 m1 31 = false) (hf2 : febB y2 m2 31 = g2) (hp : rN (px y1 m1 30 y2 m2 30) 360 = p) (hq : rD (px y1 m1 30 y2 m2 30) 360 = q) :
    Calls Tryd.prog 11 #[.int .i64 a, .int .i64 b, .bool true] w fun e' w' => e' = .returned (.tuple #[.agg #[.int .i64 p, .int .i64 q], .int .i64 0]) ∧ Below w.heap.size w w' := by
  have H := Held.start w
  have b1 := nb_bd _ _ _ h1
  have b2 := nb_bd _ _ _ h2
  rw [ha] at b1
  rw [hb] at b2
  have W1 : Hid (WhyIs a b 0) := Lib.hid (Or.inr (Or.inr ⟨b1, b2, hab, rfl⟩))
  have O1 : Hid (DayIs a y1 m1 31 0) := Lib.hid (Or.inl ⟨h1, ha, rfl⟩)
  have O2 : Hid (DayIs b y2 m2 31 0) := Lib.hid (Or.inl ⟨h2, hb, rfl⟩)
  have l1 := ln_le y1 m1
  have l2 := ln_le y2 m2
  obtain ⟨u1, u2, u3, u4, u5, u6⟩ := h1
  obtain ⟨v1, v2, v3, v4, v5, v6⟩ := h2
  have w1 : 0 ≤ 31 ∧ 31 ≤ 31 := by omega
  have w2 : 0 ≤ 31 ∧ 31 ≤ 31 := by omega
  clear l1 l2
  have HP := Lib.hid hp
  have HQ := Lib.hid hq
  clear hp hq
  have F1 : Hid (∀ v, Calls Tryd.prog 33 #[.int .i64 a, .agg #[.int .i64 y1, .int .i64 m1, .int .i64 31]] v fun e w' => e = .returned (.bool false) ∧ Below v.heap.size v w') := Lib.hid (fun v => rfeb_is a y1 m1 31 false v ⟨u1, u2, u3, u4, u5, u6⟩ ha hf1)
  have F2 : Hid (∀ v, Calls Tryd.prog 33 #[.int .i64 b, .agg #[.int .i64 y2, .int .i64 m2, .int .i64 31]] v fun e w' => e = .returned (.bool g2) ∧ Below v.heap.size v w') := Lib.hid (fun v => rfeb_is b y2 m2 31 g2 v ⟨v1, v2, v3, v4, v5, v6⟩ hb hf2)
  clear hf1 hf2
  clear ha hb hab u6 v6
  go_enter Tryd.func11, Tryd.ntmps11
  go_wp2_with fail
  replace H := (H.pair (w.heap.size) (.int .i64 0) (.int .i64 0) 26 rfl)
  (with_reducible refine (rwhy_any a b 0 _ W1.out).mono ?_)
  rintro e w1 ⟨rfl, hb⟩
  replace H := H.below hb
  clear hb
  go_wp2_with fail
  (with_reducible refine (rof_any a y1 m1 31 0 _ O1.out).mono ?_)
  rintro e w2 ⟨rfl, hb⟩
  replace H := H.below hb
  clear hb
  go_wp2_with fail
  replace H := (H.triple (w2.heap.size) (.int .i64 y1) (.int .i64 m1) (.int .i64 31) 41 rfl)
  (with_reducible refine (rof_any b y2 m2 31 0 _ O2.out).mono ?_)
  rintro e w3 ⟨rfl, hb⟩
  replace H := H.below hb
  clear hb
  have ca0 := H.cell (w2.heap.size) 0 (.int .i64 y1) (List.Mem.head _)
  have ca1 := H.cell (w2.heap.size) 1 (.int .i64 m1) (List.Mem.tail _ (List.Mem.head _))
  have ca2 := H.cell (w2.heap.size) 2 (.int .i64 31) (List.Mem.tail _ (List.Mem.tail _ (List.Mem.head _)))
  have la := H.lt (w2.heap.size) 0 (.int .i64 y1) (List.Mem.head _)
  go_wp2_with fail
  clear ca0 ca1 ca2 la
  replace H := (H.triple (w3.heap.size) (.int .i64 y2) (.int .i64 m2) (.int .i64 31) 41 rfl)
  (with_reducible refine (F1.out _).mono ?_)
  rintro e w4 ⟨rfl, hb⟩
  replace H := H.below hb
  clear hb
  have ca0 := H.cell (w2.heap.size) 0 (.int .i64 y1) (List.Mem.tail _ (List.Mem.tail _ (List.Mem.tail _ (List.Mem.tail _ (List.Mem.tail _ (List.Mem.tail _ (List.Mem.head _)))))))
  have ca1 := H.cell (w2.heap.size) 1 (.int .i64 m1) (List.Mem.tail _ (List.Mem.tail _ (List.Mem.tail _ (List.Mem.tail _ (List.Mem.tail _ (List.Mem.tail _ (List.Mem.tail _ (List.Mem.head _))))))))
  have ca2 := H.cell (w2.heap.size) 2 (.int .i64 31) (List.Mem.tail _ (List.Mem.tail _ (List.Mem.tail _ (List.Mem.tail _ (List.Mem.tail _ (List.Mem.tail _ (List.Mem.tail _ (List.Mem.tail _ (List.Mem.head _)))))))))
  have la := H.lt (w2.heap.size) 0 (.int .i64 y1) (List.Mem.tail _ (List.Mem.tail _ (List.Mem.tail _ (List.Mem.tail _ (List.Mem.tail _ (List.Mem.tail _ (List.Mem.head _)))))))
  have cb0 := H.cell (w3.heap.size) 0 (.int .i64 y2) (List.Mem.head _)
  have cb1 := H.cell (w3.heap.size) 1 (.int .i64 m2) (List.Mem.tail _ (List.Mem.head _))
  have cb2 := H.cell (w3.heap.size) 2 (.int .i64 31) (List.Mem.tail _ (List.Mem.tail _ (List.Mem.head _)))
  have lb := H.lt (w3.heap.size) 0 (.int .i64 y2) (List.Mem.head _)
  go_wp2_with fail
  clear ca0 ca1 ca2 la cb0 cb1 cb2 lb
  (with_reducible refine (F2.out _).mono ?_)
  rintro e w5 ⟨rfl, hb⟩
  replace H := H.below hb
  clear hb
  have ca0 := H.cell (w2.heap.size) 0 (.int .i64 y1) (List.Mem.tail _ (List.Mem.tail _ (List.Mem.tail _ (List.Mem.tail _ (List.Mem.tail _ (List.Mem.tail _ (List.Mem.head _)))))))
  have ca1 := H.cell (w2.heap.size) 1 (.int .i64 m1) (List.Mem.tail _ (List.Mem.tail _ (List.Mem.tail _ (List.Mem.tail _ (List.Mem.tail _ (List.Mem.tail _ (List.Mem.tail _ (List.Mem.head _))))))))
  have ca2 := H.cell (w2.heap.size) 2 (.int .i64 31) (List.Mem.tail _ (List.Mem.tail _ (List.Mem.tail _ (List.Mem.tail _ (List.Mem.tail _ (List.Mem.tail _ (List.Mem.tail _ (List.Mem.tail _ (List.Mem.head _)))))))))
  have la := H.lt (w2.heap.size) 0 (.int .i64 y1) (List.Mem.tail _ (List.Mem.tail _ (List.Mem.tail _ (List.Mem.tail _ (List.Mem.tail _ (List.Mem.tail _ (List.Mem.head _)))))))
  have cb0 := H.cell (w3.heap.size) 0 (.int .i64 y2) (List.Mem.head _)
  have cb1 := H.cell (w3.heap.size) 1 (.int .i64 m2) (List.Mem.tail _ (List.Mem.head _))
  have cb2 := H.cell (w3.heap.size) 2 (.int .i64 31) (List.Mem.tail _ (List.Mem.tail _ (List.Mem.head _)))
  have lb := H.lt (w3.heap.size) 0 (.int .i64 y2) (List.Mem.head _)
  go_wp2_with fail
  clear ca0 ca1 ca2 la cb0 cb1 cb2 lb
  (with_reducible refine (rpart_any y1 m1 31 y2 m2 31 30 30 p q _ ⟨u1, u2⟩ ⟨v1, v2⟩ ⟨u3, u4⟩ ⟨v3, v4⟩ (by omega) (by omega) HP.out HQ.out).mono ?_)
  rintro e w6 ⟨rfl, hb⟩
  replace H := H.below hb
  clear hb
  have cz0 := H.cell (w.heap.size) 0 (.int .i64 0) (List.Mem.tail _ (List.Mem.tail _ (List.Mem.tail _ (List.Mem.tail _ (List.Mem.tail _ (List.Mem.tail _ (List.Mem.tail _ (List.Mem.tail _ (List.Mem.tail _ (List.Mem.tail _ (List.Mem.tail _ (List.Mem.tail _ (List.Mem.head _)))))))))))))
  have cz1 := H.cell (w.heap.size) 1 (.int .i64 0) (List.Mem.tail _ (List.Mem.tail _ (List.Mem.tail _ (List.Mem.tail _ (List.Mem.tail _ (List.Mem.tail _ (List.Mem.tail _ (List.Mem.tail _ (List.Mem.tail _ (List.Mem.tail _ (List.Mem.tail _ (List.Mem.tail _ (List.Mem.tail _ (List.Mem.head _))))))))))))))
  have lz := H.lt (w.heap.size) 0 (.int .i64 0) (List.Mem.tail _ (List.Mem.tail _ (List.Mem.tail _ (List.Mem.tail _ (List.Mem.tail _ (List.Mem.tail _ (List.Mem.tail _ (List.Mem.tail _ (List.Mem.tail _ (List.Mem.tail _ (List.Mem.tail _ (List.Mem.tail _ (List.Mem.head _)))))))))))))
  have fz0 := H.frozen (w.heap.size) 0 (List.Mem.tail _ (List.Mem.tail _ (List.Mem.tail _ (List.Mem.tail _ (List.Mem.tail _ (List.Mem.tail _ (List.Mem.tail _ (List.Mem.tail _ (List.Mem.tail _ (List.Mem.tail _ (List.Mem.tail _ (List.Mem.tail _ (List.Mem.tail _ (List.Mem.tail _ (List.Mem.head _)))))))))))))))
  have fz1 := H.frozen (w.heap.size) 1 (List.Mem.tail _ (List.Mem.tail _ (List.Mem.tail _ (List.Mem.tail _ (List.Mem.tail _ (List.Mem.tail _ (List.Mem.tail _ (List.Mem.tail _ (List.Mem.tail _ (List.Mem.tail _ (List.Mem.tail _ (List.Mem.tail _ (List.Mem.tail _ (List.Mem.tail _ (List.Mem.tail _ (List.Mem.head _))))))))))))))))
  have HK := H.old
  clear H
  go_wp2_with fail
  exact bodyPost_ret (v := .tuple #[.agg #[.int .i64 p, .int .i64 q], .int .i64 0]) (by simp [results, Tryd.results11, go_sem, cz0, cz1]) rfl ⟨rfl, (HK.setCell (by simp <;> omega) _).setCell (by simp <;> omega) _⟩

set_option maxHeartbeats 1000000 in
theorem rus_m31d2 (a b y1 m1 y2 m2 d2 p q : Int) (g2 : Bool) (w : World) (h1 : may y1 m1 31) (ha : nb y1 m1 31 = a) (h2 : may y2 m2 d2) (hb : nb y2 m2 d2 = b) (hab : a ≤ b) (hf1 : febB y1 m1 31 = false) (hf2 : febB y2 m2 d2 = g2) (n2 : d2 ≠ 31) (hp : rN (px y1 m1 30 y2 m2 d2) 360 = p) (hq : rD (px y1 m1 30 y2 m2 d2) 360 = q) :
    Calls Tryd.prog 11 #[.int .i64 a, .int .i64 b, .bool true] w fun e' w' => e' = .returned (.tuple #[.agg #[.int .i64 p, .int .i64 q], .int .i64 0]) ∧ Below w.heap.size w w' := by
  have H := Held.start w
  have b1 := nb_bd _ _ _ h1
  have b2 := nb_bd _ _ _ h2
  rw [ha] at b1
  rw [hb] at b2
  have W1 : Hid (WhyIs a b 0) := Lib.hid (Or.inr (Or.inr ⟨b1, b2, hab, rfl⟩))
  have O1 : Hid (DayIs a y1 m1 31 0) := Lib.hid (Or.inl ⟨h1, ha, rfl⟩)
  have O2 : Hid (DayIs b y2 m2 d2 0) := Lib.hid (Or.inl ⟨h2, hb, rfl⟩)
  have l1 := ln_le y1 m1
  have l2 := ln_le y2 m2
  obtain ⟨u1, u2, u3, u4, u5, u6⟩ := h1
  obtain ⟨v1, v2, v3, v4, v5, v6⟩ := h2
  have w1 : 0 ≤ 31 ∧ 31 ≤ 31 := by omega
  have w2 : 0 ≤ d2 ∧ d2 ≤ 31 := by omega
  clear l1 l2
  have HP := Lib.hid hp
  have HQ := Lib.hid hq
  clear hp hq
  have F1 : Hid (∀ v, Calls Tryd.prog 33 #[.int .i64 a, .agg #[.int .i64 y1, .int .i64 m1, .int .i64 31]] v fun e w' => e = .returned (.bool false) ∧ Below v.heap.size v w') := Lib.hid (fun v => rfeb_is a y1 m1 31 false v ⟨u1, u2, u3, u4, u5, u6⟩ ha hf1)
  have F2 : Hid (∀ v, Calls Tryd.prog 33 #[.int .i64 b, .agg #[.int .i64 y2, .int .i64 m2, .int .i64 d2]] v fun e w' => e = .returned (.bool g2) ∧ Below v.heap.size v w') := Lib.hid (fun v => rfeb_is b y2 m2 d2 g2 v ⟨v1, v2, v3, v4, v5, v6⟩ hb hf2)
  clear hf1 hf2
  have t2 : (d2 == 31) = false := beq_eq_false_iff_ne.2 n2
  clear ha hb hab u6 v6
  go_enter Tryd.func11, Tryd.ntmps11
  go_wp2_with fail
  replace H := (H.pair (w.heap.size) (.int .i64 0) (.int .i64 0) 26 rfl)
  (with_reducible refine (rwhy_any a b 0 _ W1.out).mono ?_)
  rintro e w1 ⟨rfl, hb⟩
  replace H := H.below hb
  clear hb
  go_wp2_with fail
  (with_reducible refine (rof_any a y1 m1 31 0 _ O1.out).mono ?_)
  rintro e w2 ⟨rfl, hb⟩
  replace H := H.below hb
  clear hb
  go_wp2_with fail
  replace H := (H.triple (w2.heap.size) (.int .i64 y1) (.int .i64 m1) (.int .i64 31) 41 rfl)
  (with_reducible refine (rof_any b y2 m2 d2 0 _ O2.out).mono ?_)
  rintro e w3 ⟨rfl, hb⟩
  replace H := H.below hb
  clear hb
  have ca0 := H.cell (w2.heap.size) 0 (.int .i64 y1) (List.Mem.head _)
  have ca1 := H.cell (w2.heap.size) 1 (.int .i64 m1) (List.Mem.tail _ (List.Mem.head _))
  have ca2 := H.cell (w2.heap.size) 2 (.int .i64 31) (List.Mem.tail _ (List.Mem.tail _ (List.Mem.head _)))
  have la := H.lt (w2.heap.size) 0 (.int .i64 y1) (List.Mem.head _)
  go_wp2_with fail
  clear ca0 ca1 ca2 la
  replace H := (H.triple (w3.heap.size) (.int .i64 y2) (.int .i64 m2) (.int .i64 d2) 41 rfl)
  (with_reducible refine (F1.out _).mono ?_)
  rintro e w4 ⟨rfl, hb⟩
  replace H := H.below hb
  clear hb
  have ca0 := H.cell (w2.heap.size) 0 (.int .i64 y1) (List.Mem.tail _ (List.Mem.tail _ (List.Mem.tail _ (List.Mem.tail _ (List.Mem.tail _ (List.Mem.tail _ (List.Mem.head _)))))))
  have ca1 := H.cell (w2.heap.size) 1 (.int .i64 m1) (List.Mem.tail _ (List.Mem.tail _ (List.Mem.tail _ (List.Mem.tail _ (List.Mem.tail _ (List.Mem.tail _ (List.Mem.tail _ (List.Mem.head _))))))))
  have ca2 := H.cell (w2.heap.size) 2 (.int .i64 31) (List.Mem.tail _ (List.Mem.tail _ (List.Mem.tail _ (List.Mem.tail _ (List.Mem.tail _ (List.Mem.tail _ (List.Mem.tail _ (List.Mem.tail _ (List.Mem.head _)))))))))
  have la := H.lt (w2.heap.size) 0 (.int .i64 y1) (List.Mem.tail _ (List.Mem.tail _ (List.Mem.tail _ (List.Mem.tail _ (List.Mem.tail _ (List.Mem.tail _ (List.Mem.head _)))))))
  have cb0 := H.cell (w3.heap.size) 0 (.int .i64 y2) (List.Mem.head _)
  have cb1 := H.cell (w3.heap.size) 1 (.int .i64 m2) (List.Mem.tail _ (List.Mem.head _))
  have cb2 := H.cell (w3.heap.size) 2 (.int .i64 d2) (List.Mem.tail _ (List.Mem.tail _ (List.Mem.head _)))
  have lb := H.lt (w3.heap.size) 0 (.int .i64 y2) (List.Mem.head _)
  go_wp2_with fail
  clear ca0 ca1 ca2 la cb0 cb1 cb2 lb
  (with_reducible refine (F2.out _).mono ?_)
  rintro e w5 ⟨rfl, hb⟩
  replace H := H.below hb
  clear hb
  have ca0 := H.cell (w2.heap.size) 0 (.int .i64 y1) (List.Mem.tail _ (List.Mem.tail _ (List.Mem.tail _ (List.Mem.tail _ (List.Mem.tail _ (List.Mem.tail _ (List.Mem.head _)))))))
  have ca1 := H.cell (w2.heap.size) 1 (.int .i64 m1) (List.Mem.tail _ (List.Mem.tail _ (List.Mem.tail _ (List.Mem.tail _ (List.Mem.tail _ (List.Mem.tail _ (List.Mem.tail _ (List.Mem.head _))))))))
  have ca2 := H.cell (w2.heap.size) 2 (.int .i64 31) (List.Mem.tail _ (List.Mem.tail _ (List.Mem.tail _ (List.Mem.tail _ (List.Mem.tail _ (List.Mem.tail _ (List.Mem.tail _ (List.Mem.tail _ (List.Mem.head _)))))))))
  have la := H.lt (w2.heap.size) 0 (.int .i64 y1) (List.Mem.tail _ (List.Mem.tail _ (List.Mem.tail _ (List.Mem.tail _ (List.Mem.tail _ (List.Mem.tail _ (List.Mem.head _)))))))
  have cb0 := H.cell (w3.heap.size) 0 (.int .i64 y2) (List.Mem.head _)
  have cb1 := H.cell (w3.heap.size) 1 (.int .i64 m2) (List.Mem.tail _ (List.Mem.head _))
  have cb2 := H.cell (w3.heap.size) 2 (.int .i64 d2) (List.Mem.tail _ (List.Mem.tail _ (List.Mem.head _)))
  have lb := H.lt (w3.heap.size) 0 (.int .i64 y2) (List.Mem.head _)
  go_wp2_with fail
  clear ca0 ca1 ca2 la cb0 cb1 cb2 lb
  (with_reducible refine (rpart_any y1 m1 31 y2 m2 d2 30 d2 p q _ ⟨u1, u2⟩ ⟨v1, v2⟩ ⟨u3, u4⟩ ⟨v3, v4⟩ (by omega) (by omega) HP.out HQ.out).mono ?_)
  rintro e w6 ⟨rfl, hb⟩
  replace H := H.below hb
  clear hb
  have cz0 := H.cell (w.heap.size) 0 (.int .i64 0) (List.Mem.tail _ (List.Mem.tail _ (List.Mem.tail _ (List.Mem.tail _ (List.Mem.tail _ (List.Mem.tail _ (List.Mem.tail _ (List.Mem.tail _ (List.Mem.tail _ (List.Mem.tail _ (List.Mem.tail _ (List.Mem.tail _ (List.Mem.head _)))))))))))))
  have cz1 := H.cell (w.heap.size) 1 (.int .i64 0) (List.Mem.tail _ (List.Mem.tail _ (List.Mem.tail _ (List.Mem.tail _ (List.Mem.tail _ (List.Mem.tail _ (List.Mem.tail _ (List.Mem.tail _ (List.Mem.tail _ (List.Mem.tail _ (List.Mem.tail _ (List.Mem.tail _ (List.Mem.tail _ (List.Mem.head _))))))))))))))
  have lz := H.lt (w.heap.size) 0 (.int .i64 0) (List.Mem.tail _ (List.Mem.tail _ (List.Mem.tail _ (List.Mem.tail _ (List.Mem.tail _ (List.Mem.tail _ (List.Mem.tail _ (List.Mem.tail _ (List.Mem.tail _ (List.Mem.tail _ (List.Mem.tail _ (List.Mem.tail _ (List.Mem.head _)))))))))))))
  have fz0 := H.frozen (w.heap.size) 0 (List.Mem.tail _ (List.Mem.tail _ (List.Mem.tail _ (List.Mem.tail _ (List.Mem.tail _ (List.Mem.tail _ (List.Mem.tail _ (List.Mem.tail _ (List.Mem.tail _ (List.Mem.tail _ (List.Mem.tail _ (List.Mem.tail _ (List.Mem.tail _ (List.Mem.tail _ (List.Mem.head _)))))))))))))))
  have fz1 := H.frozen (w.heap.size) 1 (List.Mem.tail _ (List.Mem.tail _ (List.Mem.tail _ (List.Mem.tail _ (List.Mem.tail _ (List.Mem.tail _ (List.Mem.tail _ (List.Mem.tail _ (List.Mem.tail _ (List.Mem.tail _ (List.Mem.tail _ (List.Mem.tail _ (List.Mem.tail _ (List.Mem.tail _ (List.Mem.tail _ (List.Mem.head _))))))))))))))))
  have HK := H.old
  clear H
  go_wp2_with fail
  exact bodyPost_ret (v := .tuple #[.agg #[.int .i64 p, .int .i64 q], .int .i64 0]) (by simp [results, Tryd.results11, go_sem, cz0, cz1]) rfl ⟨rfl, (HK.setCell (by simp <;> omega) _).setCell (by simp <;> omega) _⟩

set_option maxHeartbeats 1000000 in
theorem rus_m3031 (a b y1 m1 y2 m2 p q : Int) (g2 : Bool) (w : World) (h1 : may y1 m1 30) (ha : nb y1 m1 30 = a) (h2 : may y2 m2 31) (hb : nb y2 m2 31 = b) (hab : a ≤ b) (hf1 : febB y1 m1 30 = false) (hf2 : febB y2 m2 31 = g2) (hp : rN (px y1 m1 30 y2 m2 30) 360 = p) (hq : rD (px y1 m1 30 y2 m2 30) 360 = q) :
    Calls Tryd.prog 11 #[.int .i64 a, .int .i64 b, .bool true] w fun e' w' => e' = .returned (.tuple #[.agg #[.int .i64 p, .int .i64 q], .int .i64 0]) ∧ Below w.heap.size w w' := by
  have H := Held.start w
  have b1 := nb_bd _ _ _ h1
  have b2 := nb_bd _ _ _ h2
  rw [ha] at b1
  rw [hb] at b2
  have W1 : Hid (WhyIs a b 0) := Lib.hid (Or.inr (Or.inr ⟨b1, b2, hab, rfl⟩))
  have O1 : Hid (DayIs a y1 m1 30 0) := Lib.hid (Or.inl ⟨h1, ha, rfl⟩)
  have O2 : Hid (DayIs b y2 m2 31 0) := Lib.hid (Or.inl ⟨h2, hb, rfl⟩)
  have l1 := ln_le y1 m1
  have l2 := ln_le y2 m2
  obtain ⟨u1, u2, u3, u4, u5, u6⟩ := h1
  obtain ⟨v1, v2, v3, v4, v5, v6⟩ := h2
  have w1 : 0 ≤ 30 ∧ 30 ≤ 31 := by omega
  have w2 : 0 ≤ 31 ∧ 31 ≤ 31 := by omega
  clear l1 l2
  have HP := Lib.hid hp
  have HQ := Lib.hid hq
  clear hp hq
  have F1 : Hid (∀ v, Calls Tryd.prog 33 #[.int .i64 a, .agg #[.int .i64 y1, .int .i64 m1, .int .i64 30]] v fun e w' => e = .returned (.bool false) ∧ Below v.heap.size v w') := Lib.hid (fun v => rfeb_is a y1 m1 30 false v ⟨u1, u2, u3, u4, u5, u6⟩ ha hf1)
  have F2 : Hid (∀ v, Calls Tryd.prog 33 #[.int .i64 b, .agg #[.int .i64 y2, .int .i64 m2, .int .i64 31]] v fun e w' => e = .returned (.bool g2) ∧ Below v.heap.size v w') := Lib.hid (fun v => rfeb_is b y2 m2 31 g2 v ⟨v1, v2, v3, v4, v5, v6⟩ hb hf2)
  clear hf1 hf2
  clear ha hb hab u6 v6
  go_enter Tryd.func11, Tryd.ntmps11
  go_wp2_with fail
  replace H := (H.pair (w.heap.size) (.int .i64 0) (.int .i64 0) 26 rfl)
  (with_reducible refine (rwhy_any a b 0 _ W1.out).mono ?_)
  rintro e w1 ⟨rfl, hb⟩
  replace H := H.below hb
  clear hb
  go_wp2_with fail
  (with_reducible refine (rof_any a y1 m1 30 0 _ O1.out).mono ?_)
  rintro e w2 ⟨rfl, hb⟩
  replace H := H.below hb
  clear hb
  go_wp2_with fail
  replace H := (H.triple (w2.heap.size) (.int .i64 y1) (.int .i64 m1) (.int .i64 30) 41 rfl)
  (with_reducible refine (rof_any b y2 m2 31 0 _ O2.out).mono ?_)
  rintro e w3 ⟨rfl, hb⟩
  replace H := H.below hb
  clear hb
  have ca0 := H.cell (w2.heap.size) 0 (.int .i64 y1) (List.Mem.head _)
  have ca1 := H.cell (w2.heap.size) 1 (.int .i64 m1) (List.Mem.tail _ (List.Mem.head _))
  have ca2 := H.cell (w2.heap.size) 2 (.int .i64 30) (List.Mem.tail _ (List.Mem.tail _ (List.Mem.head _)))
  have la := H.lt (w2.heap.size) 0 (.int .i64 y1) (List.Mem.head _)
  go_wp2_with fail
  clear ca0 ca1 ca2 la
  replace H := (H.triple (w3.heap.size) (.int .i64 y2) (.int .i64 m2) (.int .i64 31) 41 rfl)
  (with_reducible refine (F1.out _).mono ?_)
  rintro e w4 ⟨rfl, hb⟩
  replace H := H.below hb
  clear hb
  have ca0 := H.cell (w2.heap.size) 0 (.int .i64 y1) (List.Mem.tail _ (List.Mem.tail _ (List.Mem.tail _ (List.Mem.tail _ (List.Mem.tail _ (List.Mem.tail _ (List.Mem.head _)))))))
  have ca1 := H.cell (w2.heap.size) 1 (.int .i64 m1) (List.Mem.tail _ (List.Mem.tail _ (List.Mem.tail _ (List.Mem.tail _ (List.Mem.tail _ (List.Mem.tail _ (List.Mem.tail _ (List.Mem.head _))))))))
  have ca2 := H.cell (w2.heap.size) 2 (.int .i64 30) (List.Mem.tail _ (List.Mem.tail _ (List.Mem.tail _ (List.Mem.tail _ (List.Mem.tail _ (List.Mem.tail _ (List.Mem.tail _ (List.Mem.tail _ (List.Mem.head _)))))))))
  have la := H.lt (w2.heap.size) 0 (.int .i64 y1) (List.Mem.tail _ (List.Mem.tail _ (List.Mem.tail _ (List.Mem.tail _ (List.Mem.tail _ (List.Mem.tail _ (List.Mem.head _)))))))
  have cb0 := H.cell (w3.heap.size) 0 (.int .i64 y2) (List.Mem.head _)
  have cb1 := H.cell (w3.heap.size) 1 (.int .i64 m2) (List.Mem.tail _ (List.Mem.head _))
  have cb2 := H.cell (w3.heap.size) 2 (.int .i64 31) (List.Mem.tail _ (List.Mem.tail _ (List.Mem.head _)))
  have lb := H.lt (w3.heap.size) 0 (.int .i64 y2) (List.Mem.head _)
  go_wp2_with fail
  clear ca0 ca1 ca2 la cb0 cb1 cb2 lb
  (with_reducible refine (F2.out _).mono ?_)
  rintro e w5 ⟨rfl, hb⟩
  replace H := H.below hb
  clear hb
  have ca0 := H.cell (w2.heap.size) 0 (.int .i64 y1) (List.Mem.tail _ (List.Mem.tail _ (List.Mem.tail _ (List.Mem.tail _ (List.Mem.tail _ (List.Mem.tail _ (List.Mem.head _)))))))
  have ca1 := H.cell (w2.heap.size) 1 (.int .i64 m1) (List.Mem.tail _ (List.Mem.tail _ (List.Mem.tail _ (List.Mem.tail _ (List.Mem.tail _ (List.Mem.tail _ (List.Mem.tail _ (List.Mem.head _))))))))
  have ca2 := H.cell (w2.heap.size) 2 (.int .i64 30) (List.Mem.tail _ (List.Mem.tail _ (List.Mem.tail _ (List.Mem.tail _ (List.Mem.tail _ (List.Mem.tail _ (List.Mem.tail _ (List.Mem.tail _ (List.Mem.head _)))))))))
  have la := H.lt (w2.heap.size) 0 (.int .i64 y1) (List.Mem.tail _ (List.Mem.tail _ (List.Mem.tail _ (List.Mem.tail _ (List.Mem.tail _ (List.Mem.tail _ (List.Mem.head _)))))))
  have cb0 := H.cell (w3.heap.size) 0 (.int .i64 y2) (List.Mem.head _)
  have cb1 := H.cell (w3.heap.size) 1 (.int .i64 m2) (List.Mem.tail _ (List.Mem.head _))
  have cb2 := H.cell (w3.heap.size) 2 (.int .i64 31) (List.Mem.tail _ (List.Mem.tail _ (List.Mem.head _)))
  have lb := H.lt (w3.heap.size) 0 (.int .i64 y2) (List.Mem.head _)
  go_wp2_with fail
  clear ca0 ca1 ca2 la cb0 cb1 cb2 lb
  (with_reducible refine (rpart_any y1 m1 30 y2 m2 31 30 30 p q _ ⟨u1, u2⟩ ⟨v1, v2⟩ ⟨u3, u4⟩ ⟨v3, v4⟩ (by omega) (by omega) HP.out HQ.out).mono ?_)
  rintro e w6 ⟨rfl, hb⟩
  replace H := H.below hb
  clear hb
  have cz0 := H.cell (w.heap.size) 0 (.int .i64 0) (List.Mem.tail _ (List.Mem.tail _ (List.Mem.tail _ (List.Mem.tail _ (List.Mem.tail _ (List.Mem.tail _ (List.Mem.tail _ (List.Mem.tail _ (List.Mem.tail _ (List.Mem.tail _ (List.Mem.tail _ (List.Mem.tail _ (List.Mem.head _)))))))))))))
  have cz1 := H.cell (w.heap.size) 1 (.int .i64 0) (List.Mem.tail _ (List.Mem.tail _ (List.Mem.tail _ (List.Mem.tail _ (List.Mem.tail _ (List.Mem.tail _ (List.Mem.tail _ (List.Mem.tail _ (List.Mem.tail _ (List.Mem.tail _ (List.Mem.tail _ (List.Mem.tail _ (List.Mem.tail _ (List.Mem.head _))))))))))))))
  have lz := H.lt (w.heap.size) 0 (.int .i64 0) (List.Mem.tail _ (List.Mem.tail _ (List.Mem.tail _ (List.Mem.tail _ (List.Mem.tail _ (List.Mem.tail _ (List.Mem.tail _ (List.Mem.tail _ (List.Mem.tail _ (List.Mem.tail _ (List.Mem.tail _ (List.Mem.tail _ (List.Mem.head _)))))))))))))
  have fz0 := H.frozen (w.heap.size) 0 (List.Mem.tail _ (List.Mem.tail _ (List.Mem.tail _ (List.Mem.tail _ (List.Mem.tail _ (List.Mem.tail _ (List.Mem.tail _ (List.Mem.tail _ (List.Mem.tail _ (List.Mem.tail _ (List.Mem.tail _ (List.Mem.tail _ (List.Mem.tail _ (List.Mem.tail _ (List.Mem.head _)))))))))))))))
  have fz1 := H.frozen (w.heap.size) 1 (List.Mem.tail _ (List.Mem.tail _ (List.Mem.tail _ (List.Mem.tail _ (List.Mem.tail _ (List.Mem.tail _ (List.Mem.tail _ (List.Mem.tail _ (List.Mem.tail _ (List.Mem.tail _ (List.Mem.tail _ (List.Mem.tail _ (List.Mem.tail _ (List.Mem.tail _ (List.Mem.tail _ (List.Mem.head _))))))))))))))))
  have HK := H.old
  clear H
  go_wp2_with fail
  exact bodyPost_ret (v := .tuple #[.agg #[.int .i64 p, .int .i64 q], .int .i64 0]) (by simp [results, Tryd.results11, go_sem, cz0, cz1]) rfl ⟨rfl, (HK.setCell (by simp <;> omega) _).setCell (by simp <;> omega) _⟩

set_option maxHeartbeats 1000000 in
theorem rus_m30d2 (a b y1 m1 y2 m2 d2 p q : Int) (g2 : Bool) (w : World) (h1 : may y1 m1 30) (ha : nb y1 m1 30 = a) (h2 : may y2 m2 d2) (hb : nb y2 m2 d2 = b) (hab : a ≤ b) (hf1 : febB y1 m1 30 = false) (hf2 : febB y2 m2 d2 = g2) (n2 : d2 ≠ 31) (hp : rN (px y1 m1 30 y2 m2 d2) 360 = p) (hq : rD (px y1 m1 30 y2 m2 d2) 360 = q) :
    Calls Tryd.prog 11 #[.int .i64 a, .int .i64 b, .bool true] w fun e' w' => e' = .returned (.tuple #[.agg #[.int .i64 p, .int .i64 q], .int .i64 0]) ∧ Below w.heap.size w w' := by
  have H := Held.start w
  have b1 := nb_bd _ _ _ h1
  have b2 := nb_bd _ _ _ h2
  rw [ha] at b1
  rw [hb] at b2
  have W1 : Hid (WhyIs a b 0) := Lib.hid (Or.inr (Or.inr ⟨b1, b2, hab, rfl⟩))
  have O1 : Hid (DayIs a y1 m1 30 0) := Lib.hid (Or.inl ⟨h1, ha, rfl⟩)
  have O2 : Hid (DayIs b y2 m2 d2 0) := Lib.hid (Or.inl ⟨h2, hb, rfl⟩)
  have l1 := ln_le y1 m1
  have l2 := ln_le y2 m2
  obtain ⟨u1, u2, u3, u4, u5, u6⟩ := h1
  obtain ⟨v1, v2, v3, v4, v5, v6⟩ := h2
  have w1 : 0 ≤ 30 ∧ 30 ≤ 31 := by omega
  have w2 : 0 ≤ d2 ∧ d2 ≤ 31 := by omega
  clear l1 l2
  have HP := Lib.hid hp
  have HQ := Lib.hid hq
  clear hp hq
  have F1 : Hid (∀ v, Calls Tryd.prog 33 #[.int .i64 a, .agg #[.int .i64 y1, .int .i64 m1, .int .i64 30]] v fun e w' => e = .returned (.bool false) ∧ Below v.heap.size v w') := Lib.hid (fun v => rfeb_is a y1 m1 30 false v ⟨u1, u2, u3, u4, u5, u6⟩ ha hf1)
  have F2 : Hid (∀ v, Calls Tryd.prog 33 #[.int .i64 b, .agg #[.int .i64 y2, .int .i64 m2, .int .i64 d2]] v fun e w' => e = .returned (.bool g2) ∧ Below v.heap.size v w') := Lib.hid (fun v => rfeb_is b y2 m2 d2 g2 v ⟨v1, v2, v3, v4, v5, v6⟩ hb hf2)
  clear hf1 hf2
  have t2 : (d2 == 31) = false := beq_eq_false_iff_ne.2 n2
  clear ha hb hab u6 v6
  go_enter Tryd.func11, Tryd.ntmps11
  go_wp2_with fail
  replace H := (H.pair (w.heap.size) (.int .i64 0) (.int .i64 0) 26 rfl)
  (with_reducible refine (rwhy_any a b 0 _ W1.out).mono ?_)
  rintro e w1 ⟨rfl, hb⟩
  replace H := H.below hb
  clear hb
  go_wp2_with fail
  (with_reducible refine (rof_any a y1 m1 30 0 _ O1.out).mono ?_)
  rintro e w2 ⟨rfl, hb⟩
  replace H := H.below hb
  clear hb
  go_wp2_with fail
  replace H := (H.triple (w2.heap.size) (.int .i64 y1) (.int .i64 m1) (.int .i64 30) 41 rfl)
  (with_reducible refine (rof_any b y2 m2 d2 0 _ O2.out).mono ?_)
  rintro e w3 ⟨rfl, hb⟩
  replace H := H.below hb
  clear hb
  have ca0 := H.cell (w2.heap.size) 0 (.int .i64 y1) (List.Mem.head _)
  have ca1 := H.cell (w2.heap.size) 1 (.int .i64 m1) (List.Mem.tail _ (List.Mem.head _))
  have ca2 := H.cell (w2.heap.size) 2 (.int .i64 30) (List.Mem.tail _ (List.Mem.tail _ (List.Mem.head _)))
  have la := H.lt (w2.heap.size) 0 (.int .i64 y1) (List.Mem.head _)
  go_wp2_with fail
  clear ca0 ca1 ca2 la
  replace H := (H.triple (w3.heap.size) (.int .i64 y2) (.int .i64 m2) (.int .i64 d2) 41 rfl)
  (with_reducible refine (F1.out _).mono ?_)
  rintro e w4 ⟨rfl, hb⟩
  replace H := H.below hb
  clear hb
  have ca0 := H.cell (w2.heap.size) 0 (.int .i64 y1) (List.Mem.tail _ (List.Mem.tail _ (List.Mem.tail _ (List.Mem.tail _ (List.Mem.tail _ (List.Mem.tail _ (List.Mem.head _)))))))
  have ca1 := H.cell (w2.heap.size) 1 (.int .i64 m1) (List.Mem.tail _ (List.Mem.tail _ (List.Mem.tail _ (List.Mem.tail _ (List.Mem.tail _ (List.Mem.tail _ (List.Mem.tail _ (List.Mem.head _))))))))
  have ca2 := H.cell (w2.heap.size) 2 (.int .i64 30) (List.Mem.tail _ (List.Mem.tail _ (List.Mem.tail _ (List.Mem.tail _ (List.Mem.tail _ (List.Mem.tail _ (List.Mem.tail _ (List.Mem.tail _ (List.Mem.head _)))))))))
  have la := H.lt (w2.heap.size) 0 (.int .i64 y1) (List.Mem.tail _ (List.Mem.tail _ (List.Mem.tail _ (List.Mem.tail _ (List.Mem.tail _ (List.Mem.tail _ (List.Mem.head _)))))))
  have cb0 := H.cell (w3.heap.size) 0 (.int .i64 y2) (List.Mem.head _)
  have cb1 := H.cell (w3.heap.size) 1 (.int .i64 m2) (List.Mem.tail _ (List.Mem.head _))
  have cb2 := H.cell (w3.heap.size) 2 (.int .i64 d2) (List.Mem.tail _ (List.Mem.tail _ (List.Mem.head _)))
  have lb := H.lt (w3.heap.size) 0 (.int .i64 y2) (List.Mem.head _)
  go_wp2_with fail
  clear ca0 ca1 ca2 la cb0 cb1 cb2 lb
  (with_reducible refine (F2.out _).mono ?_)
  rintro e w5 ⟨rfl, hb⟩
  replace H := H.below hb
  clear hb
  have ca0 := H.cell (w2.heap.size) 0 (.int .i64 y1) (List.Mem.tail _ (List.Mem.tail _ (List.Mem.tail _ (List.Mem.tail _ (List.Mem.tail _ (List.Mem.tail _ (List.Mem.head _)))))))
  have ca1 := H.cell (w2.heap.size) 1 (.int .i64 m1) (List.Mem.tail _ (List.Mem.tail _ (List.Mem.tail _ (List.Mem.tail _ (List.Mem.tail _ (List.Mem.tail _ (List.Mem.tail _ (List.Mem.head _))))))))
  have ca2 := H.cell (w2.heap.size) 2 (.int .i64 30) (List.Mem.tail _ (List.Mem.tail _ (List.Mem.tail _ (List.Mem.tail _ (List.Mem.tail _ (List.Mem.tail _ (List.Mem.tail _ (List.Mem.tail _ (List.Mem.head _)))))))))
  have la := H.lt (w2.heap.size) 0 (.int .i64 y1) (List.Mem.tail _ (List.Mem.tail _ (List.Mem.tail _ (List.Mem.tail _ (List.Mem.tail _ (List.Mem.tail _ (List.Mem.head _)))))))
  have cb0 := H.cell (w3.heap.size) 0 (.int .i64 y2) (List.Mem.head _)
  have cb1 := H.cell (w3.heap.size) 1 (.int .i64 m2) (List.Mem.tail _ (List.Mem.head _))
  have cb2 := H.cell (w3.heap.size) 2 (.int .i64 d2) (List.Mem.tail _ (List.Mem.tail _ (List.Mem.head _)))
  have lb := H.lt (w3.heap.size) 0 (.int .i64 y2) (List.Mem.head _)
  go_wp2_with fail
  clear ca0 ca1 ca2 la cb0 cb1 cb2 lb
  (with_reducible refine (rpart_any y1 m1 30 y2 m2 d2 30 d2 p q _ ⟨u1, u2⟩ ⟨v1, v2⟩ ⟨u3, u4⟩ ⟨v3, v4⟩ (by omega) (by omega) HP.out HQ.out).mono ?_)
  rintro e w6 ⟨rfl, hb⟩
  replace H := H.below hb
  clear hb
  have cz0 := H.cell (w.heap.size) 0 (.int .i64 0) (List.Mem.tail _ (List.Mem.tail _ (List.Mem.tail _ (List.Mem.tail _ (List.Mem.tail _ (List.Mem.tail _ (List.Mem.tail _ (List.Mem.tail _ (List.Mem.tail _ (List.Mem.tail _ (List.Mem.tail _ (List.Mem.tail _ (List.Mem.head _)))))))))))))
  have cz1 := H.cell (w.heap.size) 1 (.int .i64 0) (List.Mem.tail _ (List.Mem.tail _ (List.Mem.tail _ (List.Mem.tail _ (List.Mem.tail _ (List.Mem.tail _ (List.Mem.tail _ (List.Mem.tail _ (List.Mem.tail _ (List.Mem.tail _ (List.Mem.tail _ (List.Mem.tail _ (List.Mem.tail _ (List.Mem.head _))))))))))))))
  have lz := H.lt (w.heap.size) 0 (.int .i64 0) (List.Mem.tail _ (List.Mem.tail _ (List.Mem.tail _ (List.Mem.tail _ (List.Mem.tail _ (List.Mem.tail _ (List.Mem.tail _ (List.Mem.tail _ (List.Mem.tail _ (List.Mem.tail _ (List.Mem.tail _ (List.Mem.tail _ (List.Mem.head _)))))))))))))
  have fz0 := H.frozen (w.heap.size) 0 (List.Mem.tail _ (List.Mem.tail _ (List.Mem.tail _ (List.Mem.tail _ (List.Mem.tail _ (List.Mem.tail _ (List.Mem.tail _ (List.Mem.tail _ (List.Mem.tail _ (List.Mem.tail _ (List.Mem.tail _ (List.Mem.tail _ (List.Mem.tail _ (List.Mem.tail _ (List.Mem.head _)))))))))))))))
  have fz1 := H.frozen (w.heap.size) 1 (List.Mem.tail _ (List.Mem.tail _ (List.Mem.tail _ (List.Mem.tail _ (List.Mem.tail _ (List.Mem.tail _ (List.Mem.tail _ (List.Mem.tail _ (List.Mem.tail _ (List.Mem.tail _ (List.Mem.tail _ (List.Mem.tail _ (List.Mem.tail _ (List.Mem.tail _ (List.Mem.tail _ (List.Mem.head _))))))))))))))))
  have HK := H.old
  clear H
  go_wp2_with fail
  exact bodyPost_ret (v := .tuple #[.agg #[.int .i64 p, .int .i64 q], .int .i64 0]) (by simp [results, Tryd.results11, go_sem, cz0, cz1]) rfl ⟨rfl, (HK.setCell (by simp <;> omega) _).setCell (by simp <;> omega) _⟩

set_option maxHeartbeats 1000000 in
theorem rus_md131 (a b y1 m1 d1 y2 m2 p q : Int) (g2 : Bool) (w : World) (h1 : may y1 m1 d1) (ha : nb y1 m1 d1 = a) (h2 : may y2 m2 31) (hb : nb y2 m2 31 = b) (hab : a ≤ b) (hf1 : febB y1 m1 d1 = false) (hf2 : febB y2 m2 31 = g2) (n1 : d1 ≠ 31) (n3 : d1 ≠ 30) (hp : rN (px y1 m1 d1 y2 m2 31) 360 = p) (hq : rD (px y1 m1 d1 y2 m2 31) 360 = q) :
    Calls Tryd.prog 11 #[.int .i64 a, .int .i64 b, .bool true] w fun e' w' => e' = .returned (.tuple #[.agg #[.int .i64 p, .int .i64 q], .int .i64 0]) ∧ Below w.heap.size w w' := by
  have H := Held.start w
  have b1 := nb_bd _ _ _ h1
  have b2 := nb_bd _ _ _ h2
  rw [ha] at b1
  rw [hb] at b2
  have W1 : Hid (WhyIs a b 0) := Lib.hid (Or.inr (Or.inr ⟨b1, b2, hab, rfl⟩))
  have O1 : Hid (DayIs a y1 m1 d1 0) := Lib.hid (Or.inl ⟨h1, ha, rfl⟩)
  have O2 : Hid (DayIs b y2 m2 31 0) := Lib.hid (Or.inl ⟨h2, hb, rfl⟩)
  have l1 := ln_le y1 m1
  have l2 := ln_le y2 m2
  obtain ⟨u1, u2, u3, u4, u5, u6⟩ := h1
  obtain ⟨v1, v2, v3, v4, v5, v6⟩ := h2
  have w1 : 0 ≤ d1 ∧ d1 ≤ 31 := by omega
  have w2 : 0 ≤ 31 ∧ 31 ≤ 31 := by omega
  clear l1 l2
  have HP := Lib.hid hp
  have HQ := Lib.hid hq
  clear hp hq
  have F1 : Hid (∀ v, Calls Tryd.prog 33 #[.int .i64 a, .agg #[.int .i64 y1, .int .i64 m1, .int .i64 d1]] v fun e w' => e = .returned (.bool false) ∧ Below v.heap.size v w') := Lib.hid (fun v => rfeb_is a y1 m1 d1 false v ⟨u1, u2, u3, u4, u5, u6⟩ ha hf1)
  have F2 : Hid (∀ v, Calls Tryd.prog 33 #[.int .i64 b, .agg #[.int .i64 y2, .int .i64 m2, .int .i64 31]] v fun e w' => e = .returned (.bool g2) ∧ Below v.heap.size v w') := Lib.hid (fun v => rfeb_is b y2 m2 31 g2 v ⟨v1, v2, v3, v4, v5, v6⟩ hb hf2)
  clear hf1 hf2
  have t1 : (d1 == 31) = false := beq_eq_false_iff_ne.2 n1
  have t3 : (d1 == 30) = false := beq_eq_false_iff_ne.2 n3
  clear ha hb hab u6 v6
  go_enter Tryd.func11, Tryd.ntmps11
  go_wp2_with fail
  replace H := (H.pair (w.heap.size) (.int .i64 0) (.int .i64 0) 26 rfl)
  (with_reducible refine (rwhy_any a b 0 _ W1.out).mono ?_)
  rintro e w1 ⟨rfl, hb⟩
  replace H := H.below hb
  clear hb
  go_wp2_with fail
  (with_reducible refine (rof_any a y1 m1 d1 0 _ O1.out).mono ?_)
  rintro e w2 ⟨rfl, hb⟩
  replace H := H.below hb
  clear hb
  go_wp2_with fail
  replace H := (H.triple (w2.heap.size) (.int .i64 y1) (.int .i64 m1) (.int .i64 d1) 41 rfl)
  (with_reducible refine (rof_any b y2 m2 31 0 _ O2.out).mono ?_)
  rintro e w3 ⟨rfl, hb⟩
  replace H := H.below hb
  clear hb
  have ca0 := H.cell (w2.heap.size) 0 (.int .i64 y1) (List.Mem.head _)
  have ca1 := H.cell (w2.heap.size) 1 (.int .i64 m1) (List.Mem.tail _ (List.Mem.head _))
  have ca2 := H.cell (w2.heap.size) 2 (.int .i64 d1) (List.Mem.tail _ (List.Mem.tail _ (List.Mem.head _)))
  have la := H.lt (w2.heap.size) 0 (.int .i64 y1) (List.Mem.head _)
  go_wp2_with fail
  clear ca0 ca1 ca2 la
  replace H := (H.triple (w3.heap.size) (.int .i64 y2) (.int .i64 m2) (.int .i64 31) 41 rfl)
  (with_reducible refine (F1.out _).mono ?_)
  rintro e w4 ⟨rfl, hb⟩
  replace H := H.below hb
  clear hb
  have ca0 := H.cell (w2.heap.size) 0 (.int .i64 y1) (List.Mem.tail _ (List.Mem.tail _ (List.Mem.tail _ (List.Mem.tail _ (List.Mem.tail _ (List.Mem.tail _ (List.Mem.head _)))))))
  have ca1 := H.cell (w2.heap.size) 1 (.int .i64 m1) (List.Mem.tail _ (List.Mem.tail _ (List.Mem.tail _ (List.Mem.tail _ (List.Mem.tail _ (List.Mem.tail _ (List.Mem.tail _ (List.Mem.head _))))))))
  have ca2 := H.cell (w2.heap.size) 2 (.int .i64 d1) (List.Mem.tail _ (List.Mem.tail _ (List.Mem.tail _ (List.Mem.tail _ (List.Mem.tail _ (List.Mem.tail _ (List.Mem.tail _ (List.Mem.tail _ (List.Mem.head _)))))))))
  have la := H.lt (w2.heap.size) 0 (.int .i64 y1) (List.Mem.tail _ (List.Mem.tail _ (List.Mem.tail _ (List.Mem.tail _ (List.Mem.tail _ (List.Mem.tail _ (List.Mem.head _)))))))
  have cb0 := H.cell (w3.heap.size) 0 (.int .i64 y2) (List.Mem.head _)
  have cb1 := H.cell (w3.heap.size) 1 (.int .i64 m2) (List.Mem.tail _ (List.Mem.head _))
  have cb2 := H.cell (w3.heap.size) 2 (.int .i64 31) (List.Mem.tail _ (List.Mem.tail _ (List.Mem.head _)))
  have lb := H.lt (w3.heap.size) 0 (.int .i64 y2) (List.Mem.head _)
  go_wp2_with fail
  clear ca0 ca1 ca2 la cb0 cb1 cb2 lb
  (with_reducible refine (F2.out _).mono ?_)
  rintro e w5 ⟨rfl, hb⟩
  replace H := H.below hb
  clear hb
  have ca0 := H.cell (w2.heap.size) 0 (.int .i64 y1) (List.Mem.tail _ (List.Mem.tail _ (List.Mem.tail _ (List.Mem.tail _ (List.Mem.tail _ (List.Mem.tail _ (List.Mem.head _)))))))
  have ca1 := H.cell (w2.heap.size) 1 (.int .i64 m1) (List.Mem.tail _ (List.Mem.tail _ (List.Mem.tail _ (List.Mem.tail _ (List.Mem.tail _ (List.Mem.tail _ (List.Mem.tail _ (List.Mem.head _))))))))
  have ca2 := H.cell (w2.heap.size) 2 (.int .i64 d1) (List.Mem.tail _ (List.Mem.tail _ (List.Mem.tail _ (List.Mem.tail _ (List.Mem.tail _ (List.Mem.tail _ (List.Mem.tail _ (List.Mem.tail _ (List.Mem.head _)))))))))
  have la := H.lt (w2.heap.size) 0 (.int .i64 y1) (List.Mem.tail _ (List.Mem.tail _ (List.Mem.tail _ (List.Mem.tail _ (List.Mem.tail _ (List.Mem.tail _ (List.Mem.head _)))))))
  have cb0 := H.cell (w3.heap.size) 0 (.int .i64 y2) (List.Mem.head _)
  have cb1 := H.cell (w3.heap.size) 1 (.int .i64 m2) (List.Mem.tail _ (List.Mem.head _))
  have cb2 := H.cell (w3.heap.size) 2 (.int .i64 31) (List.Mem.tail _ (List.Mem.tail _ (List.Mem.head _)))
  have lb := H.lt (w3.heap.size) 0 (.int .i64 y2) (List.Mem.head _)
  go_wp2_with fail
  clear ca0 ca1 ca2 la cb0 cb1 cb2 lb
  (with_reducible refine (rpart_any y1 m1 d1 y2 m2 31 d1 31 p q _ ⟨u1, u2⟩ ⟨v1, v2⟩ ⟨u3, u4⟩ ⟨v3, v4⟩ (by omega) (by omega) HP.out HQ.out).mono ?_)
  rintro e w6 ⟨rfl, hb⟩
  replace H := H.below hb
  clear hb
  have cz0 := H.cell (w.heap.size) 0 (.int .i64 0) (List.Mem.tail _ (List.Mem.tail _ (List.Mem.tail _ (List.Mem.tail _ (List.Mem.tail _ (List.Mem.tail _ (List.Mem.tail _ (List.Mem.tail _ (List.Mem.tail _ (List.Mem.tail _ (List.Mem.tail _ (List.Mem.tail _ (List.Mem.head _)))))))))))))
  have cz1 := H.cell (w.heap.size) 1 (.int .i64 0) (List.Mem.tail _ (List.Mem.tail _ (List.Mem.tail _ (List.Mem.tail _ (List.Mem.tail _ (List.Mem.tail _ (List.Mem.tail _ (List.Mem.tail _ (List.Mem.tail _ (List.Mem.tail _ (List.Mem.tail _ (List.Mem.tail _ (List.Mem.tail _ (List.Mem.head _))))))))))))))
  have lz := H.lt (w.heap.size) 0 (.int .i64 0) (List.Mem.tail _ (List.Mem.tail _ (List.Mem.tail _ (List.Mem.tail _ (List.Mem.tail _ (List.Mem.tail _ (List.Mem.tail _ (List.Mem.tail _ (List.Mem.tail _ (List.Mem.tail _ (List.Mem.tail _ (List.Mem.tail _ (List.Mem.head _)))))))))))))
  have fz0 := H.frozen (w.heap.size) 0 (List.Mem.tail _ (List.Mem.tail _ (List.Mem.tail _ (List.Mem.tail _ (List.Mem.tail _ (List.Mem.tail _ (List.Mem.tail _ (List.Mem.tail _ (List.Mem.tail _ (List.Mem.tail _ (List.Mem.tail _ (List.Mem.tail _ (List.Mem.tail _ (List.Mem.tail _ (List.Mem.head _)))))))))))))))
  have fz1 := H.frozen (w.heap.size) 1 (List.Mem.tail _ (List.Mem.tail _ (List.Mem.tail _ (List.Mem.tail _ (List.Mem.tail _ (List.Mem.tail _ (List.Mem.tail _ (List.Mem.tail _ (List.Mem.tail _ (List.Mem.tail _ (List.Mem.tail _ (List.Mem.tail _ (List.Mem.tail _ (List.Mem.tail _ (List.Mem.tail _ (List.Mem.head _))))))))))))))))
  have HK := H.old
  clear H
  go_wp2_with fail
  exact bodyPost_ret (v := .tuple #[.agg #[.int .i64 p, .int .i64 q], .int .i64 0]) (by simp [results, Tryd.results11, go_sem, cz0, cz1]) rfl ⟨rfl, (HK.setCell (by simp <;> omega) _).setCell (by simp <;> omega) _⟩

set_option maxHeartbeats 1000000 in
theorem rus_md1d2 (a b y1 m1 d1 y2 m2 d2 p q : Int) (g2 : Bool) (w : World) (h1 : may y1 m1 d1) (ha : nb y1 m1 d1 = a) (h2 : may y2 m2 d2) (hb : nb y2 m2 d2 = b) (hab : a ≤ b) (hf1 : febB y1 m1 d1 = false) (hf2 : febB y2 m2 d2 = g2) (n1 : d1 ≠ 31) (n3 : d1 ≠ 30) (n2 : d2 ≠ 31) (hp : rN (px y1 m1 d1 y2 m2 d2) 360 = p) (hq : rD (px y1 m1 d1 y2 m2 d2) 360 = q) :
    Calls Tryd.prog 11 #[.int .i64 a, .int .i64 b, .bool true] w fun e' w' => e' = .returned (.tuple #[.agg #[.int .i64 p, .int .i64 q], .int .i64 0]) ∧ Below w.heap.size w w' := by
  have H := Held.start w
  have b1 := nb_bd _ _ _ h1
  have b2 := nb_bd _ _ _ h2
  rw [ha] at b1
  rw [hb] at b2
  have W1 : Hid (WhyIs a b 0) := Lib.hid (Or.inr (Or.inr ⟨b1, b2, hab, rfl⟩))
  have O1 : Hid (DayIs a y1 m1 d1 0) := Lib.hid (Or.inl ⟨h1, ha, rfl⟩)
  have O2 : Hid (DayIs b y2 m2 d2 0) := Lib.hid (Or.inl ⟨h2, hb, rfl⟩)
  have l1 := ln_le y1 m1
  have l2 := ln_le y2 m2
  obtain ⟨u1, u2, u3, u4, u5, u6⟩ := h1
  obtain ⟨v1, v2, v3, v4, v5, v6⟩ := h2
  have w1 : 0 ≤ d1 ∧ d1 ≤ 31 := by omega
  have w2 : 0 ≤ d2 ∧ d2 ≤ 31 := by omega
  clear l1 l2
  have HP := Lib.hid hp
  have HQ := Lib.hid hq
  clear hp hq
  have F1 : Hid (∀ v, Calls Tryd.prog 33 #[.int .i64 a, .agg #[.int .i64 y1, .int .i64 m1, .int .i64 d1]] v fun e w' => e = .returned (.bool false) ∧ Below v.heap.size v w') := Lib.hid (fun v => rfeb_is a y1 m1 d1 false v ⟨u1, u2, u3, u4, u5, u6⟩ ha hf1)
  have F2 : Hid (∀ v, Calls Tryd.prog 33 #[.int .i64 b, .agg #[.int .i64 y2, .int .i64 m2, .int .i64 d2]] v fun e w' => e = .returned (.bool g2) ∧ Below v.heap.size v w') := Lib.hid (fun v => rfeb_is b y2 m2 d2 g2 v ⟨v1, v2, v3, v4, v5, v6⟩ hb hf2)
  clear hf1 hf2
  have t1 : (d1 == 31) = false := beq_eq_false_iff_ne.2 n1
  have t3 : (d1 == 30) = false := beq_eq_false_iff_ne.2 n3
  have t2 : (d2 == 31) = false := beq_eq_false_iff_ne.2 n2
  clear ha hb hab u6 v6
  go_enter Tryd.func11, Tryd.ntmps11
  go_wp2_with fail
  replace H := (H.pair (w.heap.size) (.int .i64 0) (.int .i64 0) 26 rfl)
  (with_reducible refine (rwhy_any a b 0 _ W1.out).mono ?_)
  rintro e w1 ⟨rfl, hb⟩
  replace H := H.below hb
  clear hb
  go_wp2_with fail
  (with_reducible refine (rof_any a y1 m1 d1 0 _ O1.out).mono ?_)
  rintro e w2 ⟨rfl, hb⟩
  replace H := H.below hb
  clear hb
  go_wp2_with fail
  replace H := (H.triple (w2.heap.size) (.int .i64 y1) (.int .i64 m1) (.int .i64 d1) 41 rfl)
  (with_reducible refine (rof_any b y2 m2 d2 0 _ O2.out).mono ?_)
  rintro e w3 ⟨rfl, hb⟩
  replace H := H.below hb
  clear hb
  have ca0 := H.cell (w2.heap.size) 0 (.int .i64 y1) (List.Mem.head _)
  have ca1 := H.cell (w2.heap.size) 1 (.int .i64 m1) (List.Mem.tail _ (List.Mem.head _))
  have ca2 := H.cell (w2.heap.size) 2 (.int .i64 d1) (List.Mem.tail _ (List.Mem.tail _ (List.Mem.head _)))
  have la := H.lt (w2.heap.size) 0 (.int .i64 y1) (List.Mem.head _)
  go_wp2_with fail
  clear ca0 ca1 ca2 la
  replace H := (H.triple (w3.heap.size) (.int .i64 y2) (.int .i64 m2) (.int .i64 d2) 41 rfl)
  (with_reducible refine (F1.out _).mono ?_)
  rintro e w4 ⟨rfl, hb⟩
  replace H := H.below hb
  clear hb
  have ca0 := H.cell (w2.heap.size) 0 (.int .i64 y1) (List.Mem.tail _ (List.Mem.tail _ (List.Mem.tail _ (List.Mem.tail _ (List.Mem.tail _ (List.Mem.tail _ (List.Mem.head _)))))))
  have ca1 := H.cell (w2.heap.size) 1 (.int .i64 m1) (List.Mem.tail _ (List.Mem.tail _ (List.Mem.tail _ (List.Mem.tail _ (List.Mem.tail _ (List.Mem.tail _ (List.Mem.tail _ (List.Mem.head _))))))))
  have ca2 := H.cell (w2.heap.size) 2 (.int .i64 d1) (List.Mem.tail _ (List.Mem.tail _ (List.Mem.tail _ (List.Mem.tail _ (List.Mem.tail _ (List.Mem.tail _ (List.Mem.tail _ (List.Mem.tail _ (List.Mem.head _)))))))))
  have la := H.lt (w2.heap.size) 0 (.int .i64 y1) (List.Mem.tail _ (List.Mem.tail _ (List.Mem.tail _ (List.Mem.tail _ (List.Mem.tail _ (List.Mem.tail _ (List.Mem.head _)))))))
  have cb0 := H.cell (w3.heap.size) 0 (.int .i64 y2) (List.Mem.head _)
  have cb1 := H.cell (w3.heap.size) 1 (.int .i64 m2) (List.Mem.tail _ (List.Mem.head _))
  have cb2 := H.cell (w3.heap.size) 2 (.int .i64 d2) (List.Mem.tail _ (List.Mem.tail _ (List.Mem.head _)))
  have lb := H.lt (w3.heap.size) 0 (.int .i64 y2) (List.Mem.head _)
  go_wp2_with fail
  clear ca0 ca1 ca2 la cb0 cb1 cb2 lb
  (with_reducible refine (F2.out _).mono ?_)
  rintro e w5 ⟨rfl, hb⟩
  replace H := H.below hb
  clear hb
  have ca0 := H.cell (w2.heap.size) 0 (.int .i64 y1) (List.Mem.tail _ (List.Mem.tail _ (List.Mem.tail _ (List.Mem.tail _ (List.Mem.tail _ (List.Mem.tail _ (List.Mem.head _)))))))
  have ca1 := H.cell (w2.heap.size) 1 (.int .i64 m1) (List.Mem.tail _ (List.Mem.tail _ (List.Mem.tail _ (List.Mem.tail _ (List.Mem.tail _ (List.Mem.tail _ (List.Mem.tail _ (List.Mem.head _))))))))
  have ca2 := H.cell (w2.heap.size) 2 (.int .i64 d1) (List.Mem.tail _ (List.Mem.tail _ (List.Mem.tail _ (List.Mem.tail _ (List.Mem.tail _ (List.Mem.tail _ (List.Mem.tail _ (List.Mem.tail _ (List.Mem.head _)))))))))
  have la := H.lt (w2.heap.size) 0 (.int .i64 y1) (List.Mem.tail _ (List.Mem.tail _ (List.Mem.tail _ (List.Mem.tail _ (List.Mem.tail _ (List.Mem.tail _ (List.Mem.head _)))))))
  have cb0 := H.cell (w3.heap.size) 0 (.int .i64 y2) (List.Mem.head _)
  have cb1 := H.cell (w3.heap.size) 1 (.int .i64 m2) (List.Mem.tail _ (List.Mem.head _))
  have cb2 := H.cell (w3.heap.size) 2 (.int .i64 d2) (List.Mem.tail _ (List.Mem.tail _ (List.Mem.head _)))
  have lb := H.lt (w3.heap.size) 0 (.int .i64 y2) (List.Mem.head _)
  go_wp2_with fail
  clear ca0 ca1 ca2 la cb0 cb1 cb2 lb
  (with_reducible refine (rpart_any y1 m1 d1 y2 m2 d2 d1 d2 p q _ ⟨u1, u2⟩ ⟨v1, v2⟩ ⟨u3, u4⟩ ⟨v3, v4⟩ (by omega) (by omega) HP.out HQ.out).mono ?_)
  rintro e w6 ⟨rfl, hb⟩
  replace H := H.below hb
  clear hb
  have cz0 := H.cell (w.heap.size) 0 (.int .i64 0) (List.Mem.tail _ (List.Mem.tail _ (List.Mem.tail _ (List.Mem.tail _ (List.Mem.tail _ (List.Mem.tail _ (List.Mem.tail _ (List.Mem.tail _ (List.Mem.tail _ (List.Mem.tail _ (List.Mem.tail _ (List.Mem.tail _ (List.Mem.head _)))))))))))))
  have cz1 := H.cell (w.heap.size) 1 (.int .i64 0) (List.Mem.tail _ (List.Mem.tail _ (List.Mem.tail _ (List.Mem.tail _ (List.Mem.tail _ (List.Mem.tail _ (List.Mem.tail _ (List.Mem.tail _ (List.Mem.tail _ (List.Mem.tail _ (List.Mem.tail _ (List.Mem.tail _ (List.Mem.tail _ (List.Mem.head _))))))))))))))
  have lz := H.lt (w.heap.size) 0 (.int .i64 0) (List.Mem.tail _ (List.Mem.tail _ (List.Mem.tail _ (List.Mem.tail _ (List.Mem.tail _ (List.Mem.tail _ (List.Mem.tail _ (List.Mem.tail _ (List.Mem.tail _ (List.Mem.tail _ (List.Mem.tail _ (List.Mem.tail _ (List.Mem.head _)))))))))))))
  have fz0 := H.frozen (w.heap.size) 0 (List.Mem.tail _ (List.Mem.tail _ (List.Mem.tail _ (List.Mem.tail _ (List.Mem.tail _ (List.Mem.tail _ (List.Mem.tail _ (List.Mem.tail _ (List.Mem.tail _ (List.Mem.tail _ (List.Mem.tail _ (List.Mem.tail _ (List.Mem.tail _ (List.Mem.tail _ (List.Mem.head _)))))))))))))))
  have fz1 := H.frozen (w.heap.size) 1 (List.Mem.tail _ (List.Mem.tail _ (List.Mem.tail _ (List.Mem.tail _ (List.Mem.tail _ (List.Mem.tail _ (List.Mem.tail _ (List.Mem.tail _ (List.Mem.tail _ (List.Mem.tail _ (List.Mem.tail _ (List.Mem.tail _ (List.Mem.tail _ (List.Mem.tail _ (List.Mem.tail _ (List.Mem.head _))))))))))))))))
  have HK := H.old
  clear H
  go_wp2_with fail
  exact bodyPost_ret (v := .tuple #[.agg #[.int .i64 p, .int .i64 q], .int .i64 0]) (by simp [results, Tryd.results11, go_sem, cz0, cz1]) rfl ⟨rfl, (HK.setCell (by simp <;> omega) _).setCell (by simp <;> omega) _⟩

set_option maxHeartbeats 1000000 in
theorem rus_tt (a b y1 m1 d1 y2 m2 d2 p q : Int) (w : World) (h1 : may y1 m1 d1) (ha : nb y1 m1 d1 = a) (h2 : may y2 m2 d2) (hb : nb y2 m2 d2 = b) (hab : a ≤ b) (hf1 : febB y1 m1 d1 = true) (hf2 : febB y2 m2 d2 = true) (hp : rN (px y1 m1 30 y2 m2 30) 360 = p) (hq : rD (px y1 m1 30 y2 m2 30) 360 = q) :
    Calls Tryd.prog 11 #[.int .i64 a, .int .i64 b, .bool true] w fun e' w' => e' = .returned (.tuple #[.agg #[.int .i64 p, .int .i64 q], .int .i64 0]) ∧ Below w.heap.size w w' := by
  have H := Held.start w
  have b1 := nb_bd _ _ _ h1
  have b2 := nb_bd _ _ _ h2
  rw [ha] at b1
  rw [hb] at b2
  have W1 : Hid (WhyIs a b 0) := Lib.hid (Or.inr (Or.inr ⟨b1, b2, hab, rfl⟩))
  have O1 : Hid (DayIs a y1 m1 d1 0) := Lib.hid (Or.inl ⟨h1, ha, rfl⟩)
  have O2 : Hid (DayIs b y2 m2 d2 0) := Lib.hid (Or.inl ⟨h2, hb, rfl⟩)
  have l1 := ln_le y1 m1
  have l2 := ln_le y2 m2
  obtain ⟨u1, u2, u3, u4, u5, u6⟩ := h1
  obtain ⟨v1, v2, v3, v4, v5, v6⟩ := h2
  have w1 : 0 ≤ d1 ∧ d1 ≤ 31 := by omega
  have w2 : 0 ≤ d2 ∧ d2 ≤ 31 := by omega
  clear l1 l2
  have HP := Lib.hid hp
  have HQ := Lib.hid hq
  clear hp hq
  have F1 : Hid (∀ v, Calls Tryd.prog 33 #[.int .i64 a, .agg #[.int .i64 y1, .int .i64 m1, .int .i64 d1]] v fun e w' => e = .returned (.bool true) ∧ Below v.heap.size v w') := Lib.hid (fun v => rfeb_is a y1 m1 d1 true v ⟨u1, u2, u3, u4, u5, u6⟩ ha hf1)
  have F2 : Hid (∀ v, Calls Tryd.prog 33 #[.int .i64 b, .agg #[.int .i64 y2, .int .i64 m2, .int .i64 d2]] v fun e w' => e = .returned (.bool true) ∧ Below v.heap.size v w') := Lib.hid (fun v => rfeb_is b y2 m2 d2 true v ⟨v1, v2, v3, v4, v5, v6⟩ hb hf2)
  clear hf1 hf2
  clear ha hb hab u6 v6
  go_enter Tryd.func11, Tryd.ntmps11
  go_wp2_with fail
  replace H := (H.pair (w.heap.size) (.int .i64 0) (.int .i64 0) 26 rfl)
  (with_reducible refine (rwhy_any a b 0 _ W1.out).mono ?_)
  rintro e w1 ⟨rfl, hb⟩
  replace H := H.below hb
  clear hb
  go_wp2_with fail
  (with_reducible refine (rof_any a y1 m1 d1 0 _ O1.out).mono ?_)
  rintro e w2 ⟨rfl, hb⟩
  replace H := H.below hb
  clear hb
  go_wp2_with fail
  replace H := (H.triple (w2.heap.size) (.int .i64 y1) (.int .i64 m1) (.int .i64 d1) 41 rfl)
  (with_reducible refine (rof_any b y2 m2 d2 0 _ O2.out).mono ?_)
  rintro e w3 ⟨rfl, hb⟩
  replace H := H.below hb
  clear hb
  have ca0 := H.cell (w2.heap.size) 0 (.int .i64 y1) (List.Mem.head _)
  have ca1 := H.cell (w2.heap.size) 1 (.int .i64 m1) (List.Mem.tail _ (List.Mem.head _))
  have ca2 := H.cell (w2.heap.size) 2 (.int .i64 d1) (List.Mem.tail _ (List.Mem.tail _ (List.Mem.head _)))
  have la := H.lt (w2.heap.size) 0 (.int .i64 y1) (List.Mem.head _)
  go_wp2_with fail
  clear ca0 ca1 ca2 la
  replace H := (H.triple (w3.heap.size) (.int .i64 y2) (.int .i64 m2) (.int .i64 d2) 41 rfl)
  (with_reducible refine (F1.out _).mono ?_)
  rintro e w4 ⟨rfl, hb⟩
  replace H := H.below hb
  clear hb
  have ca0 := H.cell (w2.heap.size) 0 (.int .i64 y1) (List.Mem.tail _ (List.Mem.tail _ (List.Mem.tail _ (List.Mem.tail _ (List.Mem.tail _ (List.Mem.tail _ (List.Mem.head _)))))))
  have ca1 := H.cell (w2.heap.size) 1 (.int .i64 m1) (List.Mem.tail _ (List.Mem.tail _ (List.Mem.tail _ (List.Mem.tail _ (List.Mem.tail _ (List.Mem.tail _ (List.Mem.tail _ (List.Mem.head _))))))))
  have ca2 := H.cell (w2.heap.size) 2 (.int .i64 d1) (List.Mem.tail _ (List.Mem.tail _ (List.Mem.tail _ (List.Mem.tail _ (List.Mem.tail _ (List.Mem.tail _ (List.Mem.tail _ (List.Mem.tail _ (List.Mem.head _)))))))))
  have la := H.lt (w2.heap.size) 0 (.int .i64 y1) (List.Mem.tail _ (List.Mem.tail _ (List.Mem.tail _ (List.Mem.tail _ (List.Mem.tail _ (List.Mem.tail _ (List.Mem.head _)))))))
  have cb0 := H.cell (w3.heap.size) 0 (.int .i64 y2) (List.Mem.head _)
  have cb1 := H.cell (w3.heap.size) 1 (.int .i64 m2) (List.Mem.tail _ (List.Mem.head _))
  have cb2 := H.cell (w3.heap.size) 2 (.int .i64 d2) (List.Mem.tail _ (List.Mem.tail _ (List.Mem.head _)))
  have lb := H.lt (w3.heap.size) 0 (.int .i64 y2) (List.Mem.head _)
  go_wp2_with fail
  clear ca0 ca1 ca2 la cb0 cb1 cb2 lb
  (with_reducible refine (F2.out _).mono ?_)
  rintro e w5 ⟨rfl, hb⟩
  replace H := H.below hb
  clear hb
  have ca0 := H.cell (w2.heap.size) 0 (.int .i64 y1) (List.Mem.tail _ (List.Mem.tail _ (List.Mem.tail _ (List.Mem.tail _ (List.Mem.tail _ (List.Mem.tail _ (List.Mem.head _)))))))
  have ca1 := H.cell (w2.heap.size) 1 (.int .i64 m1) (List.Mem.tail _ (List.Mem.tail _ (List.Mem.tail _ (List.Mem.tail _ (List.Mem.tail _ (List.Mem.tail _ (List.Mem.tail _ (List.Mem.head _))))))))
  have ca2 := H.cell (w2.heap.size) 2 (.int .i64 d1) (List.Mem.tail _ (List.Mem.tail _ (List.Mem.tail _ (List.Mem.tail _ (List.Mem.tail _ (List.Mem.tail _ (List.Mem.tail _ (List.Mem.tail _ (List.Mem.head _)))))))))
  have la := H.lt (w2.heap.size) 0 (.int .i64 y1) (List.Mem.tail _ (List.Mem.tail _ (List.Mem.tail _ (List.Mem.tail _ (List.Mem.tail _ (List.Mem.tail _ (List.Mem.head _)))))))
  have cb0 := H.cell (w3.heap.size) 0 (.int .i64 y2) (List.Mem.head _)
  have cb1 := H.cell (w3.heap.size) 1 (.int .i64 m2) (List.Mem.tail _ (List.Mem.head _))
  have cb2 := H.cell (w3.heap.size) 2 (.int .i64 d2) (List.Mem.tail _ (List.Mem.tail _ (List.Mem.head _)))
  have lb := H.lt (w3.heap.size) 0 (.int .i64 y2) (List.Mem.head _)
  go_wp2_with fail
  clear ca0 ca1 ca2 la cb0 cb1 cb2 lb
  (with_reducible refine (rpart_any y1 m1 d1 y2 m2 d2 30 30 p q _ ⟨u1, u2⟩ ⟨v1, v2⟩ ⟨u3, u4⟩ ⟨v3, v4⟩ (by omega) (by omega) HP.out HQ.out).mono ?_)
  rintro e w6 ⟨rfl, hb⟩
  replace H := H.below hb
  clear hb
  have cz0 := H.cell (w.heap.size) 0 (.int .i64 0) (List.Mem.tail _ (List.Mem.tail _ (List.Mem.tail _ (List.Mem.tail _ (List.Mem.tail _ (List.Mem.tail _ (List.Mem.tail _ (List.Mem.tail _ (List.Mem.tail _ (List.Mem.tail _ (List.Mem.tail _ (List.Mem.tail _ (List.Mem.head _)))))))))))))
  have cz1 := H.cell (w.heap.size) 1 (.int .i64 0) (List.Mem.tail _ (List.Mem.tail _ (List.Mem.tail _ (List.Mem.tail _ (List.Mem.tail _ (List.Mem.tail _ (List.Mem.tail _ (List.Mem.tail _ (List.Mem.tail _ (List.Mem.tail _ (List.Mem.tail _ (List.Mem.tail _ (List.Mem.tail _ (List.Mem.head _))))))))))))))
  have lz := H.lt (w.heap.size) 0 (.int .i64 0) (List.Mem.tail _ (List.Mem.tail _ (List.Mem.tail _ (List.Mem.tail _ (List.Mem.tail _ (List.Mem.tail _ (List.Mem.tail _ (List.Mem.tail _ (List.Mem.tail _ (List.Mem.tail _ (List.Mem.tail _ (List.Mem.tail _ (List.Mem.head _)))))))))))))
  have fz0 := H.frozen (w.heap.size) 0 (List.Mem.tail _ (List.Mem.tail _ (List.Mem.tail _ (List.Mem.tail _ (List.Mem.tail _ (List.Mem.tail _ (List.Mem.tail _ (List.Mem.tail _ (List.Mem.tail _ (List.Mem.tail _ (List.Mem.tail _ (List.Mem.tail _ (List.Mem.tail _ (List.Mem.tail _ (List.Mem.head _)))))))))))))))
  have fz1 := H.frozen (w.heap.size) 1 (List.Mem.tail _ (List.Mem.tail _ (List.Mem.tail _ (List.Mem.tail _ (List.Mem.tail _ (List.Mem.tail _ (List.Mem.tail _ (List.Mem.tail _ (List.Mem.tail _ (List.Mem.tail _ (List.Mem.tail _ (List.Mem.tail _ (List.Mem.tail _ (List.Mem.tail _ (List.Mem.tail _ (List.Mem.head _))))))))))))))))
  have HK := H.old
  clear H
  go_wp2_with fail
  exact bodyPost_ret (v := .tuple #[.agg #[.int .i64 p, .int .i64 q], .int .i64 0]) (by simp [results, Tryd.results11, go_sem, cz0, cz1]) rfl ⟨rfl, (HK.setCell (by simp <;> omega) _).setCell (by simp <;> omega) _⟩

set_option maxHeartbeats 1000000 in
theorem rus_tf31 (a b y1 m1 d1 y2 m2 p q : Int) (w : World) (h1 : may y1 m1 d1) (ha : nb y1 m1 d1 = a) (h2 : may y2 m2 31) (hb : nb y2 m2 31 = b) (hab : a ≤ b) (hf1 : febB y1 m1 d1 = true) (hf2 : febB y2 m2 31 = false) (hp : rN (px y1 m1 30 y2 m2 30) 360 = p) (hq : rD (px y1 m1 30 y2 m2 30) 360 = q) :
    Calls Tryd.prog 11 #[.int .i64 a, .int .i64 b, .bool true] w fun e' w' => e' = .returned (.tuple #[.agg #[.int .i64 p, .int .i64 q], .int .i64 0]) ∧ Below w.heap.size w w' := by
  have H := Held.start w
  have b1 := nb_bd _ _ _ h1
  have b2 := nb_bd _ _ _ h2
  rw [ha] at b1
  rw [hb] at b2
  have W1 : Hid (WhyIs a b 0) := Lib.hid (Or.inr (Or.inr ⟨b1, b2, hab, rfl⟩))
  have O1 : Hid (DayIs a y1 m1 d1 0) := Lib.hid (Or.inl ⟨h1, ha, rfl⟩)
  have O2 : Hid (DayIs b y2 m2 31 0) := Lib.hid (Or.inl ⟨h2, hb, rfl⟩)
  have l1 := ln_le y1 m1
  have l2 := ln_le y2 m2
  obtain ⟨u1, u2, u3, u4, u5, u6⟩ := h1
  obtain ⟨v1, v2, v3, v4, v5, v6⟩ := h2
  have w1 : 0 ≤ d1 ∧ d1 ≤ 31 := by omega
  have w2 : 0 ≤ 31 ∧ 31 ≤ 31 := by omega
  clear l1 l2
  have HP := Lib.hid hp
  have HQ := Lib.hid hq
  clear hp hq
  have F1 : Hid (∀ v, Calls Tryd.prog 33 #[.int .i64 a, .agg #[.int .i64 y1, .int .i64 m1, .int .i64 d1]] v fun e w' => e = .returned (.bool true) ∧ Below v.heap.size v w') := Lib.hid (fun v => rfeb_is a y1 m1 d1 true v ⟨u1, u2, u3, u4, u5, u6⟩ ha hf1)
  have F2 : Hid (∀ v, Calls Tryd.prog 33 #[.int .i64 b, .agg #[.int .i64 y2, .int .i64 m2, .int .i64 31]] v fun e w' => e = .returned (.bool false) ∧ Below v.heap.size v w') := Lib.hid (fun v => rfeb_is b y2 m2 31 false v ⟨v1, v2, v3, v4, v5, v6⟩ hb hf2)
  clear hf1 hf2
  clear ha hb hab u6 v6
  go_enter Tryd.func11, Tryd.ntmps11
  go_wp2_with fail
  replace H := (H.pair (w.heap.size) (.int .i64 0) (.int .i64 0) 26 rfl)
  (with_reducible refine (rwhy_any a b 0 _ W1.out).mono ?_)
  rintro e w1 ⟨rfl, hb⟩
  replace H := H.below hb
  clear hb
  go_wp2_with fail
  (with_reducible refine (rof_any a y1 m1 d1 0 _ O1.out).mono ?_)
  rintro e w2 ⟨rfl, hb⟩
  replace H := H.below hb
  clear hb
  go_wp2_with fail
  replace H := (H.triple (w2.heap.size) (.int .i64 y1) (.int .i64 m1) (.int .i64 d1) 41 rfl)
  (with_reducible refine (rof_any b y2 m2 31 0 _ O2.out).mono ?_)
  rintro e w3 ⟨rfl, hb⟩
  replace H := H.below hb
  clear hb
  have ca0 := H.cell (w2.heap.size) 0 (.int .i64 y1) (List.Mem.head _)
  have ca1 := H.cell (w2.heap.size) 1 (.int .i64 m1) (List.Mem.tail _ (List.Mem.head _))
  have ca2 := H.cell (w2.heap.size) 2 (.int .i64 d1) (List.Mem.tail _ (List.Mem.tail _ (List.Mem.head _)))
  have la := H.lt (w2.heap.size) 0 (.int .i64 y1) (List.Mem.head _)
  go_wp2_with fail
  clear ca0 ca1 ca2 la
  replace H := (H.triple (w3.heap.size) (.int .i64 y2) (.int .i64 m2) (.int .i64 31) 41 rfl)
  (with_reducible refine (F1.out _).mono ?_)
  rintro e w4 ⟨rfl, hb⟩
  replace H := H.below hb
  clear hb
  have ca0 := H.cell (w2.heap.size) 0 (.int .i64 y1) (List.Mem.tail _ (List.Mem.tail _ (List.Mem.tail _ (List.Mem.tail _ (List.Mem.tail _ (List.Mem.tail _ (List.Mem.head _)))))))
  have ca1 := H.cell (w2.heap.size) 1 (.int .i64 m1) (List.Mem.tail _ (List.Mem.tail _ (List.Mem.tail _ (List.Mem.tail _ (List.Mem.tail _ (List.Mem.tail _ (List.Mem.tail _ (List.Mem.head _))))))))
  have ca2 := H.cell (w2.heap.size) 2 (.int .i64 d1) (List.Mem.tail _ (List.Mem.tail _ (List.Mem.tail _ (List.Mem.tail _ (List.Mem.tail _ (List.Mem.tail _ (List.Mem.tail _ (List.Mem.tail _ (List.Mem.head _)))))))))
  have la := H.lt (w2.heap.size) 0 (.int .i64 y1) (List.Mem.tail _ (List.Mem.tail _ (List.Mem.tail _ (List.Mem.tail _ (List.Mem.tail _ (List.Mem.tail _ (List.Mem.head _)))))))
  have cb0 := H.cell (w3.heap.size) 0 (.int .i64 y2) (List.Mem.head _)
  have cb1 := H.cell (w3.heap.size) 1 (.int .i64 m2) (List.Mem.tail _ (List.Mem.head _))
  have cb2 := H.cell (w3.heap.size) 2 (.int .i64 31) (List.Mem.tail _ (List.Mem.tail _ (List.Mem.head _)))
  have lb := H.lt (w3.heap.size) 0 (.int .i64 y2) (List.Mem.head _)
  go_wp2_with fail
  clear ca0 ca1 ca2 la cb0 cb1 cb2 lb
  (with_reducible refine (F2.out _).mono ?_)
  rintro e w5 ⟨rfl, hb⟩
  replace H := H.below hb
  clear hb
  have ca0 := H.cell (w2.heap.size) 0 (.int .i64 y1) (List.Mem.tail _ (List.Mem.tail _ (List.Mem.tail _ (List.Mem.tail _ (List.Mem.tail _ (List.Mem.tail _ (List.Mem.head _)))))))
  have ca1 := H.cell (w2.heap.size) 1 (.int .i64 m1) (List.Mem.tail _ (List.Mem.tail _ (List.Mem.tail _ (List.Mem.tail _ (List.Mem.tail _ (List.Mem.tail _ (List.Mem.tail _ (List.Mem.head _))))))))
  have ca2 := H.cell (w2.heap.size) 2 (.int .i64 d1) (List.Mem.tail _ (List.Mem.tail _ (List.Mem.tail _ (List.Mem.tail _ (List.Mem.tail _ (List.Mem.tail _ (List.Mem.tail _ (List.Mem.tail _ (List.Mem.head _)))))))))
  have la := H.lt (w2.heap.size) 0 (.int .i64 y1) (List.Mem.tail _ (List.Mem.tail _ (List.Mem.tail _ (List.Mem.tail _ (List.Mem.tail _ (List.Mem.tail _ (List.Mem.head _)))))))
  have cb0 := H.cell (w3.heap.size) 0 (.int .i64 y2) (List.Mem.head _)
  have cb1 := H.cell (w3.heap.size) 1 (.int .i64 m2) (List.Mem.tail _ (List.Mem.head _))
  have cb2 := H.cell (w3.heap.size) 2 (.int .i64 31) (List.Mem.tail _ (List.Mem.tail _ (List.Mem.head _)))
  have lb := H.lt (w3.heap.size) 0 (.int .i64 y2) (List.Mem.head _)
  go_wp2_with fail
  clear ca0 ca1 ca2 la cb0 cb1 cb2 lb
  (with_reducible refine (rpart_any y1 m1 d1 y2 m2 31 30 30 p q _ ⟨u1, u2⟩ ⟨v1, v2⟩ ⟨u3, u4⟩ ⟨v3, v4⟩ (by omega) (by omega) HP.out HQ.out).mono ?_)
  rintro e w6 ⟨rfl, hb⟩
  replace H := H.below hb
  clear hb
  have cz0 := H.cell (w.heap.size) 0 (.int .i64 0) (List.Mem.tail _ (List.Mem.tail _ (List.Mem.tail _ (List.Mem.tail _ (List.Mem.tail _ (List.Mem.tail _ (List.Mem.tail _ (List.Mem.tail _ (List.Mem.tail _ (List.Mem.tail _ (List.Mem.tail _ (List.Mem.tail _ (List.Mem.head _)))))))))))))
  have cz1 := H.cell (w.heap.size) 1 (.int .i64 0) (List.Mem.tail _ (List.Mem.tail _ (List.Mem.tail _ (List.Mem.tail _ (List.Mem.tail _ (List.Mem.tail _ (List.Mem.tail _ (List.Mem.tail _ (List.Mem.tail _ (List.Mem.tail _ (List.Mem.tail _ (List.Mem.tail _ (List.Mem.tail _ (List.Mem.head _))))))))))))))
  have lz := H.lt (w.heap.size) 0 (.int .i64 0) (List.Mem.tail _ (List.Mem.tail _ (List.Mem.tail _ (List.Mem.tail _ (List.Mem.tail _ (List.Mem.tail _ (List.Mem.tail _ (List.Mem.tail _ (List.Mem.tail _ (List.Mem.tail _ (List.Mem.tail _ (List.Mem.tail _ (List.Mem.head _)))))))))))))
  have fz0 := H.frozen (w.heap.size) 0 (List.Mem.tail _ (List.Mem.tail _ (List.Mem.tail _ (List.Mem.tail _ (List.Mem.tail _ (List.Mem.tail _ (List.Mem.tail _ (List.Mem.tail _ (List.Mem.tail _ (List.Mem.tail _ (List.Mem.tail _ (List.Mem.tail _ (List.Mem.tail _ (List.Mem.tail _ (List.Mem.head _)))))))))))))))
  have fz1 := H.frozen (w.heap.size) 1 (List.Mem.tail _ (List.Mem.tail _ (List.Mem.tail _ (List.Mem.tail _ (List.Mem.tail _ (List.Mem.tail _ (List.Mem.tail _ (List.Mem.tail _ (List.Mem.tail _ (List.Mem.tail _ (List.Mem.tail _ (List.Mem.tail _ (List.Mem.tail _ (List.Mem.tail _ (List.Mem.tail _ (List.Mem.head _))))))))))))))))
  have HK := H.old
  clear H
  go_wp2_with fail
  exact bodyPost_ret (v := .tuple #[.agg #[.int .i64 p, .int .i64 q], .int .i64 0]) (by simp [results, Tryd.results11, go_sem, cz0, cz1]) rfl ⟨rfl, (HK.setCell (by simp <;> omega) _).setCell (by simp <;> omega) _⟩

set_option maxHeartbeats 1000000 in
theorem rus_tfd2 (a b y1 m1 d1 y2 m2 d2 p q : Int) (w : World) (h1 : may y1 m1 d1) (ha : nb y1 m1 d1 = a) (h2 : may y2 m2 d2) (hb : nb y2 m2 d2 = b) (hab : a ≤ b) (hf1 : febB y1 m1 d1 = true) (hf2 : febB y2 m2 d2 = false) (n2 : d2 ≠ 31) (hp : rN (px y1 m1 30 y2 m2 d2) 360 = p) (hq : rD (px y1 m1 30 y2 m2 d2) 360 = q) :
    Calls Tryd.prog 11 #[.int .i64 a, .int .i64 b, .bool true] w fun e' w' => e' = .returned (.tuple #[.agg #[.int .i64 p, .int .i64 q], .int .i64 0]) ∧ Below w.heap.size w w' := by
  have H := Held.start w
  have b1 := nb_bd _ _ _ h1
  have b2 := nb_bd _ _ _ h2
  rw [ha] at b1
  rw [hb] at b2
  have W1 : Hid (WhyIs a b 0) := Lib.hid (Or.inr (Or.inr ⟨b1, b2, hab, rfl⟩))
  have O1 : Hid (DayIs a y1 m1 d1 0) := Lib.hid (Or.inl ⟨h1, ha, rfl⟩)
  have O2 : Hid (DayIs b y2 m2 d2 0) := Lib.hid (Or.inl ⟨h2, hb, rfl⟩)
  have l1 := ln_le y1 m1
  have l2 := ln_le y2 m2
  obtain ⟨u1, u2, u3, u4, u5, u6⟩ := h1
  obtain ⟨v1, v2, v3, v4, v5, v6⟩ := h2
  have w1 : 0 ≤ d1 ∧ d1 ≤ 31 := by omega
  have w2 : 0 ≤ d2 ∧ d2 ≤ 31 := by omega
  clear l1 l2
  have HP := Lib.hid hp
  have HQ := Lib.hid hq
  clear hp hq
  have F1 : Hid (∀ v, Calls Tryd.prog 33 #[.int .i64 a, .agg #[.int .i64 y1, .int .i64 m1, .int .i64 d1]] v fun e w' => e = .returned (.bool true) ∧ Below v.heap.size v w') := Lib.hid (fun v => rfeb_is a y1 m1 d1 true v ⟨u1, u2, u3, u4, u5, u6⟩ ha hf1)
  have F2 : Hid (∀ v, Calls Tryd.prog 33 #[.int .i64 b, .agg #[.int .i64 y2, .int .i64 m2, .int .i64 d2]] v fun e w' => e = .returned (.bool false) ∧ Below v.heap.size v w') := Lib.hid (fun v => rfeb_is b y2 m2 d2 false v ⟨v1, v2, v3, v4, v5, v6⟩ hb hf2)
  clear hf1 hf2
  have t2 : (d2 == 31) = false := beq_eq_false_iff_ne.2 n2
  clear ha hb hab u6 v6
  go_enter Tryd.func11, Tryd.ntmps11
  go_wp2_with fail
  replace H := (H.pair (w.heap.size) (.int .i64 0) (.int .i64 0) 26 rfl)
  (with_reducible refine (rwhy_any a b 0 _ W1.out).mono ?_)
  rintro e w1 ⟨rfl, hb⟩
  replace H := H.below hb
  clear hb
  go_wp2_with fail
  (with_reducible refine (rof_any a y1 m1 d1 0 _ O1.out).mono ?_)
  rintro e w2 ⟨rfl, hb⟩
  replace H := H.below hb
  clear hb
  go_wp2_with fail
  replace H := (H.triple (w2.heap.size) (.int .i64 y1) (.int .i64 m1) (.int .i64 d1) 41 rfl)
  (with_reducible refine (rof_any b y2 m2 d2 0 _ O2.out).mono ?_)
  rintro e w3 ⟨rfl, hb⟩
  replace H := H.below hb
  clear hb
  have ca0 := H.cell (w2.heap.size) 0 (.int .i64 y1) (List.Mem.head _)
  have ca1 := H.cell (w2.heap.size) 1 (.int .i64 m1) (List.Mem.tail _ (List.Mem.head _))
  have ca2 := H.cell (w2.heap.size) 2 (.int .i64 d1) (List.Mem.tail _ (List.Mem.tail _ (List.Mem.head _)))
  have la := H.lt (w2.heap.size) 0 (.int .i64 y1) (List.Mem.head _)
  go_wp2_with fail
  clear ca0 ca1 ca2 la
  replace H := (H.triple (w3.heap.size) (.int .i64 y2) (.int .i64 m2) (.int .i64 d2) 41 rfl)
  (with_reducible refine (F1.out _).mono ?_)
  rintro e w4 ⟨rfl, hb⟩
  replace H := H.below hb
  clear hb
  have ca0 := H.cell (w2.heap.size) 0 (.int .i64 y1) (List.Mem.tail _ (List.Mem.tail _ (List.Mem.tail _ (List.Mem.tail _ (List.Mem.tail _ (List.Mem.tail _ (List.Mem.head _)))))))
  have ca1 := H.cell (w2.heap.size) 1 (.int .i64 m1) (List.Mem.tail _ (List.Mem.tail _ (List.Mem.tail _ (List.Mem.tail _ (List.Mem.tail _ (List.Mem.tail _ (List.Mem.tail _ (List.Mem.head _))))))))
  have ca2 := H.cell (w2.heap.size) 2 (.int .i64 d1) (List.Mem.tail _ (List.Mem.tail _ (List.Mem.tail _ (List.Mem.tail _ (List.Mem.tail _ (List.Mem.tail _ (List.Mem.tail _ (List.Mem.tail _ (List.Mem.head _)))))))))
  have la := H.lt (w2.heap.size) 0 (.int .i64 y1) (List.Mem.tail _ (List.Mem.tail _ (List.Mem.tail _ (List.Mem.tail _ (List.Mem.tail _ (List.Mem.tail _ (List.Mem.head _)))))))
  have cb0 := H.cell (w3.heap.size) 0 (.int .i64 y2) (List.Mem.head _)
  have cb1 := H.cell (w3.heap.size) 1 (.int .i64 m2) (List.Mem.tail _ (List.Mem.head _))
  have cb2 := H.cell (w3.heap.size) 2 (.int .i64 d2) (List.Mem.tail _ (List.Mem.tail _ (List.Mem.head _)))
  have lb := H.lt (w3.heap.size) 0 (.int .i64 y2) (List.Mem.head _)
  go_wp2_with fail
  clear ca0 ca1 ca2 la cb0 cb1 cb2 lb
  (with_reducible refine (F2.out _).mono ?_)
  rintro e w5 ⟨rfl, hb⟩
  replace H := H.below hb
  clear hb
  have ca0 := H.cell (w2.heap.size) 0 (.int .i64 y1) (List.Mem.tail _ (List.Mem.tail _ (List.Mem.tail _ (List.Mem.tail _ (List.Mem.tail _ (List.Mem.tail _ (List.Mem.head _)))))))
  have ca1 := H.cell (w2.heap.size) 1 (.int .i64 m1) (List.Mem.tail _ (List.Mem.tail _ (List.Mem.tail _ (List.Mem.tail _ (List.Mem.tail _ (List.Mem.tail _ (List.Mem.tail _ (List.Mem.head _))))))))
  have ca2 := H.cell (w2.heap.size) 2 (.int .i64 d1) (List.Mem.tail _ (List.Mem.tail _ (List.Mem.tail _ (List.Mem.tail _ (List.Mem.tail _ (List.Mem.tail _ (List.Mem.tail _ (List.Mem.tail _ (List.Mem.head _)))))))))
  have la := H.lt (w2.heap.size) 0 (.int .i64 y1) (List.Mem.tail _ (List.Mem.tail _ (List.Mem.tail _ (List.Mem.tail _ (List.Mem.tail _ (List.Mem.tail _ (List.Mem.head _)))))))
  have cb0 := H.cell (w3.heap.size) 0 (.int .i64 y2) (List.Mem.head _)
  have cb1 := H.cell (w3.heap.size) 1 (.int .i64 m2) (List.Mem.tail _ (List.Mem.head _))
  have cb2 := H.cell (w3.heap.size) 2 (.int .i64 d2) (List.Mem.tail _ (List.Mem.tail _ (List.Mem.head _)))
  have lb := H.lt (w3.heap.size) 0 (.int .i64 y2) (List.Mem.head _)
  go_wp2_with fail
  clear ca0 ca1 ca2 la cb0 cb1 cb2 lb
  (with_reducible refine (rpart_any y1 m1 d1 y2 m2 d2 30 d2 p q _ ⟨u1, u2⟩ ⟨v1, v2⟩ ⟨u3, u4⟩ ⟨v3, v4⟩ (by omega) (by omega) HP.out HQ.out).mono ?_)
  rintro e w6 ⟨rfl, hb⟩
  replace H := H.below hb
  clear hb
  have cz0 := H.cell (w.heap.size) 0 (.int .i64 0) (List.Mem.tail _ (List.Mem.tail _ (List.Mem.tail _ (List.Mem.tail _ (List.Mem.tail _ (List.Mem.tail _ (List.Mem.tail _ (List.Mem.tail _ (List.Mem.tail _ (List.Mem.tail _ (List.Mem.tail _ (List.Mem.tail _ (List.Mem.head _)))))))))))))
  have cz1 := H.cell (w.heap.size) 1 (.int .i64 0) (List.Mem.tail _ (List.Mem.tail _ (List.Mem.tail _ (List.Mem.tail _ (List.Mem.tail _ (List.Mem.tail _ (List.Mem.tail _ (List.Mem.tail _ (List.Mem.tail _ (List.Mem.tail _ (List.Mem.tail _ (List.Mem.tail _ (List.Mem.tail _ (List.Mem.head _))))))))))))))
  have lz := H.lt (w.heap.size) 0 (.int .i64 0) (List.Mem.tail _ (List.Mem.tail _ (List.Mem.tail _ (List.Mem.tail _ (List.Mem.tail _ (List.Mem.tail _ (List.Mem.tail _ (List.Mem.tail _ (List.Mem.tail _ (List.Mem.tail _ (List.Mem.tail _ (List.Mem.tail _ (List.Mem.head _)))))))))))))
  have fz0 := H.frozen (w.heap.size) 0 (List.Mem.tail _ (List.Mem.tail _ (List.Mem.tail _ (List.Mem.tail _ (List.Mem.tail _ (List.Mem.tail _ (List.Mem.tail _ (List.Mem.tail _ (List.Mem.tail _ (List.Mem.tail _ (List.Mem.tail _ (List.Mem.tail _ (List.Mem.tail _ (List.Mem.tail _ (List.Mem.head _)))))))))))))))
  have fz1 := H.frozen (w.heap.size) 1 (List.Mem.tail _ (List.Mem.tail _ (List.Mem.tail _ (List.Mem.tail _ (List.Mem.tail _ (List.Mem.tail _ (List.Mem.tail _ (List.Mem.tail _ (List.Mem.tail _ (List.Mem.tail _ (List.Mem.tail _ (List.Mem.tail _ (List.Mem.tail _ (List.Mem.tail _ (List.Mem.tail _ (List.Mem.head _))))))))))))))))
  have HK := H.old
  clear H
  go_wp2_with fail
  exact bodyPost_ret (v := .tuple #[.agg #[.int .i64 p, .int .i64 q], .int .i64 0]) (by simp [results, Tryd.results11, go_sem, cz0, cz1]) rfl ⟨rfl, (HK.setCell (by simp <;> omega) _).setCell (by simp <;> omega) _⟩

set_option maxHeartbeats 1000000 in
theorem rus_day (a b : Int) (t : Bool) (w : World) (h : (a < 1 ∨ 3652059 < a) ∨ (b < 1 ∨ 3652059 < b)) :
    Calls Tryd.prog 11 #[.int .i64 a, .int .i64 b, .bool t] w fun e' w' => e' = .returned (.tuple #[.agg #[.int .i64 0, .int .i64 0], .int .i64 3]) ∧ Below w.heap.size w w' := by
  have H := Held.start w
  have W1 : Hid (WhyIs a b 3) := Lib.hid (Or.inl ⟨h, rfl⟩)
  go_enter Tryd.func11, Tryd.ntmps11
  go_wp2_with fail
  replace H := (H.pair (w.heap.size) (.int .i64 0) (.int .i64 0) 26 rfl)
  (with_reducible refine (rwhy_any a b 3 _ W1.out).mono ?_)
  rintro e w1 ⟨rfl, hb⟩
  replace H := H.below hb
  clear hb
  have cz0 := H.cell (w.heap.size) 0 (.int .i64 0) (List.Mem.head _)
  have cz1 := H.cell (w.heap.size) 1 (.int .i64 0) (List.Mem.tail _ (List.Mem.head _))
  have lz := H.lt (w.heap.size) 0 (.int .i64 0) (List.Mem.head _)
  have fz0 := H.frozen (w.heap.size) 0 (List.Mem.tail _ (List.Mem.tail _ (List.Mem.head _)))
  have fz1 := H.frozen (w.heap.size) 1 (List.Mem.tail _ (List.Mem.tail _ (List.Mem.tail _ (List.Mem.head _))))
  have HK := H.old
  clear H
  go_wp2_with fail
  exact bodyPost_ret (v := .tuple #[.agg #[.int .i64 0, .int .i64 0], .int .i64 3]) (by simp [results, Tryd.results11, go_sem, cz0, cz1]) rfl ⟨rfl, (HK.setCell (by simp <;> omega) _).setCell (by simp <;> omega) _⟩

set_option maxHeartbeats 1000000 in
theorem rus_order (a b : Int) (t : Bool) (w : World) (h1 : 1 ≤ a ∧ a ≤ 3652059) (h2 : 1 ≤ b ∧ b ≤ 3652059) (h : b < a) :
    Calls Tryd.prog 11 #[.int .i64 a, .int .i64 b, .bool t] w fun e' w' => e' = .returned (.tuple #[.agg #[.int .i64 0, .int .i64 0], .int .i64 4]) ∧ Below w.heap.size w w' := by
  have H := Held.start w
  have W1 : Hid (WhyIs a b 4) := Lib.hid (Or.inr (Or.inl ⟨h1, h2, h, rfl⟩))
  go_enter Tryd.func11, Tryd.ntmps11
  go_wp2_with fail
  replace H := (H.pair (w.heap.size) (.int .i64 0) (.int .i64 0) 26 rfl)
  (with_reducible refine (rwhy_any a b 4 _ W1.out).mono ?_)
  rintro e w1 ⟨rfl, hb⟩
  replace H := H.below hb
  clear hb
  have cz0 := H.cell (w.heap.size) 0 (.int .i64 0) (List.Mem.head _)
  have cz1 := H.cell (w.heap.size) 1 (.int .i64 0) (List.Mem.tail _ (List.Mem.head _))
  have lz := H.lt (w.heap.size) 0 (.int .i64 0) (List.Mem.head _)
  have fz0 := H.frozen (w.heap.size) 0 (List.Mem.tail _ (List.Mem.tail _ (List.Mem.head _)))
  have fz1 := H.frozen (w.heap.size) 1 (List.Mem.tail _ (List.Mem.tail _ (List.Mem.tail _ (List.Mem.head _))))
  have HK := H.old
  clear H
  go_wp2_with fail
  exact bodyPost_ret (v := .tuple #[.agg #[.int .i64 0, .int .i64 0], .int .i64 4]) (by simp [results, Tryd.results11, go_sem, cz0, cz1]) rfl ⟨rfl, (HK.setCell (by simp <;> omega) _).setCell (by simp <;> omega) _⟩

theorem rus_any (a b p q c : Int) (t : Bool) (w : World) (h : PartIs (uX t) a b p q c) : Calls Tryd.prog 11 #[.int .i64 a, .int .i64 b, .bool t] w fun e' w' => e' = .returned (.tuple #[.agg #[.int .i64 p, .int .i64 q], .int .i64 c]) ∧ Below w.heap.size w w' := by
  rcases h with ⟨y1, m1, d1, y2, m2, d2, h1, ha, h2, hb, hab, hp, hq, rfl⟩ | ⟨h, rfl, rfl, rfl⟩ | ⟨h1, h2, h, rfl, rfl, rfl⟩
  · unfold uX usA usB usC cutD at hp hq
    cases t
    · simp only [Bool.false_eq_true, false_and, if_false] at hp hq
      by_cases n1 : d1 = 31
      · subst n1
        by_cases n2 : d2 = 31
        · subst n2
          exact rus_n3131 a b y1 m1 y2 m2 p q _ _ w h1 ha h2 hb hab rfl rfl (by simpa using hp) (by simpa using hq)
        · exact rus_n31d2 a b y1 m1 y2 m2 d2 p q _ _ w h1 ha h2 hb hab rfl rfl n2 (by simpa [n2] using hp) (by simpa [n2] using hq)
      · by_cases n3 : d1 = 30
        · subst n3
          by_cases n2 : d2 = 31
          · subst n2
            exact rus_n3031 a b y1 m1 y2 m2 p q _ _ w h1 ha h2 hb hab rfl rfl (by simpa using hp) (by simpa using hq)
          · exact rus_n30d2 a b y1 m1 y2 m2 d2 p q _ _ w h1 ha h2 hb hab rfl rfl n2 (by simpa [n2] using hp) (by simpa [n2] using hq)
        · skip
          by_cases n2 : d2 = 31
          · subst n2
            exact rus_nd131 a b y1 m1 d1 y2 m2 p q _ _ w h1 ha h2 hb hab rfl rfl n1 n3 (by simpa [n1, n3] using hp) (by simpa [n1, n3] using hq)
          · exact rus_nd1d2 a b y1 m1 d1 y2 m2 d2 p q _ _ w h1 ha h2 hb hab rfl rfl n1 n3 n2 (by simpa [n2, n1, n3] using hp) (by simpa [n2, n1, n3] using hq)
    · cases f1 : febB y1 m1 d1
      · simp only [f1, Bool.false_eq_true, and_false, false_and, if_false] at hp hq
        by_cases n1 : d1 = 31
        · subst n1
          by_cases n2 : d2 = 31
          · subst n2
            exact rus_m3131 a b y1 m1 y2 m2 p q _ w h1 ha h2 hb hab f1 rfl (by simpa using hp) (by simpa using hq)
          · exact rus_m31d2 a b y1 m1 y2 m2 d2 p q _ w h1 ha h2 hb hab f1 rfl n2 (by simpa [n2] using hp) (by simpa [n2] using hq)
        · by_cases n3 : d1 = 30
          · subst n3
            by_cases n2 : d2 = 31
            · subst n2
              exact rus_m3031 a b y1 m1 y2 m2 p q _ w h1 ha h2 hb hab f1 rfl (by simpa using hp) (by simpa using hq)
            · exact rus_m30d2 a b y1 m1 y2 m2 d2 p q _ w h1 ha h2 hb hab f1 rfl n2 (by simpa [n2] using hp) (by simpa [n2] using hq)
          · skip
            by_cases n2 : d2 = 31
            · subst n2
              exact rus_md131 a b y1 m1 d1 y2 m2 p q _ w h1 ha h2 hb hab f1 rfl n1 n3 (by simpa [n1, n3] using hp) (by simpa [n1, n3] using hq)
            · exact rus_md1d2 a b y1 m1 d1 y2 m2 d2 p q _ w h1 ha h2 hb hab f1 rfl n1 n3 n2 (by simpa [n2, n1, n3] using hp) (by simpa [n2, n1, n3] using hq)
      · cases f2 : febB y2 m2 d2
        · simp only [f1, f2, Bool.false_eq_true, and_false, and_self, if_true, if_false] at hp hq
          by_cases n2 : d2 = 31
          · subst n2
            exact rus_tf31 a b y1 m1 d1 y2 m2 p q w h1 ha h2 hb hab f1 f2 (by simpa using hp) (by simpa using hq)
          · exact rus_tfd2 a b y1 m1 d1 y2 m2 d2 p q w h1 ha h2 hb hab f1 f2 n2 (by simpa [n2] using hp) (by simpa [n2] using hq)
        · simp only [f1, f2, and_self, if_true] at hp hq
          exact rus_tt a b y1 m1 d1 y2 m2 d2 p q w h1 ha h2 hb hab f1 f2 (by simpa using hp) (by simpa using hq)
  · exact rus_day a b t w h
  · exact rus_order a b t w h1 h2 h
end Go.Proofs.YtkmjaoiehmddcaaDoor
