/- Several texts in one: TyRef, TyUs. -/
import Derived.Test.YtkmchbllnfoccaaGreatDoorTyNum
import Derived.Test.YtkmchbllnfoccaaGreatDoorMoRef
import Derived.Test.YtkmchbllnfoccaaGreatDoorRefNew
/- The reference of layer 7: why two days have no part, the part, E, Isda. -/
namespace Go.Proofs.YtkmchbllnfoccaaGreatDoor
open Go.RowKit
set_option linter.unusedVariables false
set_option linter.unusedSimpArgs false

theorem rday_is_ty (n : Int) (b : Bool) (w : World) (h : decide (1 ≤ n ∧ n ≤ 3652059) = b) : Calls Tryz.prog 16 #[.int .i64 n] w fun e w' => e = .returned (.bool b) ∧ Below w.heap.size w w' := by
  subst h
  by_cases h1 : 1 ≤ n
  · have h2 : decide (1 ≤ n ∧ n ≤ 3652059) = decide (n ≤ 3652059) := by simp [h1]
    rw [h2]
    go_enter Tryz.func16, Tryz.ntmps16
    go_wp2
    go_ret
    exact ⟨rfl, Below.refl _ _⟩
  · have h2 : decide (1 ≤ n ∧ n ≤ 3652059) = false := by simp [h1]
    have h3 : decide (1 ≤ n) = false := by simp [h1]
    rw [h2]
    go_enter Tryz.func16, Tryz.ntmps16
    go_wp2
    go_ret
    exact ⟨rfl, Below.refl _ _⟩

set_option maxHeartbeats 1000000 in
theorem rwhy_a_ty (a b : Int) (w : World) (h : a < 1 ∨ 3652059 < a) :
    Calls Tryz.prog 35 #[.int .i64 a, .int .i64 b] w fun e' w' => e' = .returned (.int .i64 3) ∧ Below w.heap.size w w' := by
  have H := Held.start w
  have D1 : Hid (decide (1 ≤ a ∧ a ≤ 3652059) = false) := Lib.hid (by rw [decide_eq_false_iff_not]; omega)
  obtain ⟨x, hx⟩ : ∃ x, decide (1 ≤ b ∧ b ≤ 3652059) = x := ⟨_, rfl⟩
  have D2 := Lib.hid hx
  clear h hx
  go_enter Tryz.func35, Tryz.ntmps35
  go_wp2_with fail
  (with_reducible refine (rday_is_ty a false _ D1.out).mono ?_)
  rintro e w1 ⟨rfl, hb⟩
  replace H := H.below hb
  clear hb
  go_wp2_with fail
  (with_reducible refine (rday_is_ty b x _ D2.out).mono ?_)
  rintro e w2 ⟨rfl, hb⟩
  replace H := H.below hb
  clear hb
  go_wp2_with fail
  go_ret
  exact ⟨rfl, H.old⟩

set_option maxHeartbeats 1000000 in
theorem rwhy_b_ty (a b : Int) (w : World) (h1 : 1 ≤ a ∧ a ≤ 3652059) (h : b < 1 ∨ 3652059 < b) :
    Calls Tryz.prog 35 #[.int .i64 a, .int .i64 b] w fun e' w' => e' = .returned (.int .i64 3) ∧ Below w.heap.size w w' := by
  have H := Held.start w
  have D1 : Hid (decide (1 ≤ a ∧ a ≤ 3652059) = true) := Lib.hid (by rw [decide_eq_true_eq]; exact h1)
  have D2 : Hid (decide (1 ≤ b ∧ b ≤ 3652059) = false) := Lib.hid (by rw [decide_eq_false_iff_not]; omega)
  clear h h1
  go_enter Tryz.func35, Tryz.ntmps35
  go_wp2_with fail
  (with_reducible refine (rday_is_ty a true _ D1.out).mono ?_)
  rintro e w1 ⟨rfl, hb⟩
  replace H := H.below hb
  clear hb
  go_wp2_with fail
  (with_reducible refine (rday_is_ty b false _ D2.out).mono ?_)
  rintro e w2 ⟨rfl, hb⟩
  replace H := H.below hb
  clear hb
  go_wp2_with fail
  go_ret
  exact ⟨rfl, H.old⟩

set_option maxHeartbeats 1000000 in
theorem rwhy_gt_ty (a b : Int) (w : World) (h1 : 1 ≤ a ∧ a ≤ 3652059) (h2 : 1 ≤ b ∧ b ≤ 3652059) (h : a > b) :
    Calls Tryz.prog 35 #[.int .i64 a, .int .i64 b] w fun e' w' => e' = .returned (.int .i64 4) ∧ Below w.heap.size w w' := by
  have H := Held.start w
  have D1 : Hid (decide (1 ≤ a ∧ a ≤ 3652059) = true) := Lib.hid (by rw [decide_eq_true_eq]; exact h1)
  have D2 : Hid (decide (1 ≤ b ∧ b ≤ 3652059) = true) := Lib.hid (by rw [decide_eq_true_eq]; exact h2)
  clear h1 h2
  go_enter Tryz.func35, Tryz.ntmps35
  go_wp2_with fail
  (with_reducible refine (rday_is_ty a true _ D1.out).mono ?_)
  rintro e w1 ⟨rfl, hb⟩
  replace H := H.below hb
  clear hb
  go_wp2_with fail
  (with_reducible refine (rday_is_ty b true _ D2.out).mono ?_)
  rintro e w2 ⟨rfl, hb⟩
  replace H := H.below hb
  clear hb
  go_wp2_with fail
  go_ret
  exact ⟨rfl, H.old⟩

set_option maxHeartbeats 1000000 in
theorem rwhy_ok_ty (a b : Int) (w : World) (h1 : 1 ≤ a ∧ a ≤ 3652059) (h2 : 1 ≤ b ∧ b ≤ 3652059) (h : ¬ a > b) :
    Calls Tryz.prog 35 #[.int .i64 a, .int .i64 b] w fun e' w' => e' = .returned (.int .i64 0) ∧ Below w.heap.size w w' := by
  have H := Held.start w
  have D1 : Hid (decide (1 ≤ a ∧ a ≤ 3652059) = true) := Lib.hid (by rw [decide_eq_true_eq]; exact h1)
  have D2 : Hid (decide (1 ≤ b ∧ b ≤ 3652059) = true) := Lib.hid (by rw [decide_eq_true_eq]; exact h2)
  clear h1 h2
  go_enter Tryz.func35, Tryz.ntmps35
  go_wp2_with fail
  (with_reducible refine (rday_is_ty a true _ D1.out).mono ?_)
  rintro e w1 ⟨rfl, hb⟩
  replace H := H.below hb
  clear hb
  go_wp2_with fail
  (with_reducible refine (rday_is_ty b true _ D2.out).mono ?_)
  rintro e w2 ⟨rfl, hb⟩
  replace H := H.below hb
  clear hb
  go_wp2_with fail
  go_ret
  exact ⟨rfl, H.old⟩

/-- Why two days have no part. -/
def WhyIs_ty (a b c : Int) : Prop := (((a < 1 ∨ 3652059 < a) ∨ (b < 1 ∨ 3652059 < b)) ∧ c = 3) ∨ ((1 ≤ a ∧ a ≤ 3652059) ∧ (1 ≤ b ∧ b ≤ 3652059) ∧ b < a ∧ c = 4) ∨ ((1 ≤ a ∧ a ≤ 3652059) ∧ (1 ≤ b ∧ b ≤ 3652059) ∧ a ≤ b ∧ c = 0)
theorem rwhy_any_ty (a b c : Int) (w : World) (h : WhyIs_ty a b c) : Calls Tryz.prog 35 #[.int .i64 a, .int .i64 b] w fun e' w' => e' = .returned (.int .i64 c) ∧ Below w.heap.size w w' := by
  rcases h with ⟨h, rfl⟩ | ⟨h1, h2, h, rfl⟩ | ⟨h1, h2, h, rfl⟩
  · by_cases h1 : a < 1 ∨ 3652059 < a
    · exact rwhy_a_ty a b w h1
    · exact rwhy_b_ty a b w (by omega) (by omega)
  · exact rwhy_gt_ty a b w h1 h2 h
  · exact rwhy_ok_ty a b w h1 h2 (by omega)

set_option maxHeartbeats 1000000 in
theorem rpart_neg (y1 m1 a1 y2 m2 a2 d1 d2 p q c : Int) (w : World) (by1 : 1 ≤ y1 ∧ y1 ≤ 9999) (by2 : 1 ≤ y2 ∧ y2 ≤ 9999) (bm1 : 1 ≤ m1 ∧ m1 ≤ 12) (bm2 : 1 ≤ m2 ∧ m2 ≤ 12) (bd1 : 0 ≤ d1 ∧ d1 ≤ 31) (bd2 : 0 ≤ d2 ∧ d2 ≤ 31) (hx : 360 * (y2 - y1) + 30 * (m2 - m1) + (d2 - d1) < 0) (hr : rN 0 360 = p ∧ rD 0 360 = q ∧ rE 0 360 = c) :
    Calls Tryz.prog 38 #[.agg #[.int .i64 y1, .int .i64 m1, .int .i64 a1], .agg #[.int .i64 y2, .int .i64 m2, .int .i64 a2], .int .i64 d1, .int .i64 d2] w fun e' w' => e' = .returned (.tuple #[.agg #[.int .i64 p, .int .i64 q], .int .i64 c]) ∧ Below w.heap.size w w' := by
  have H := Held.start w
  have C1 : Hid (∀ v, Calls Tryz.prog 41 #[.int .i64 0, .int .i64 360] v fun e w' => e = .returned (.tuple #[.agg #[.int .i64 p, .int .i64 q], .int .i64 c]) ∧ Below v.heap.size v w') := Lib.hid (fun v => by have := refnew_any 0 360 v (by omega) (by omega) (by decide) (by decide); rwa [hr.1, hr.2.1, hr.2.2] at this)
  clear hr
  go_enter Tryz.func38, Tryz.ntmps38
  go_wp2_with fail
  replace H := (((H.triple (w.heap.size) (.int .i64 y1) (.int .i64 m1) (.int .i64 a1) 78 rfl).triple (w.heap.size + 1) (.int .i64 y2) (.int .i64 m2) (.int .i64 a2) 78 (by simp)).pair (w.heap.size + 2) (.int .i64 0) (.int .i64 0) 29 (by simp))
  (with_reducible refine (C1.out _).mono ?_)
  rintro e w1 ⟨rfl, hb⟩
  replace H := H.below hb
  clear hb
  have cz0 := H.cell (w.heap.size + 2) 0 (.int .i64 0) (List.Mem.head _)
  have cz1 := H.cell (w.heap.size + 2) 1 (.int .i64 0) (List.Mem.tail _ (List.Mem.head _))
  have lz := H.lt (w.heap.size + 2) 0 (.int .i64 0) (List.Mem.head _)
  have fz0 := H.frozen (w.heap.size + 2) 0 (List.Mem.tail _ (List.Mem.tail _ (List.Mem.head _)))
  have fz1 := H.frozen (w.heap.size + 2) 1 (List.Mem.tail _ (List.Mem.tail _ (List.Mem.tail _ (List.Mem.head _))))
  have HK := H.old
  clear H
  go_wp2_with fail
  exact bodyPost_ret (v := .tuple #[.agg #[.int .i64 p, .int .i64 q], .int .i64 c]) (by simp [results, Tryz.results38, go_sem, cz0, cz1]) rfl ⟨rfl, (HK.setCell (by simp <;> omega) _).setCell (by simp <;> omega) _⟩

set_option maxHeartbeats 1000000 in
theorem rpart_pos (y1 m1 a1 y2 m2 a2 d1 d2 x p q c : Int) (w : World) (by1 : 1 ≤ y1 ∧ y1 ≤ 9999) (by2 : 1 ≤ y2 ∧ y2 ≤ 9999) (bm1 : 1 ≤ m1 ∧ m1 ≤ 12) (bm2 : 1 ≤ m2 ∧ m2 ≤ 12) (bd1 : 0 ≤ d1 ∧ d1 ≤ 31) (bd2 : 0 ≤ d2 ∧ d2 ≤ 31) (hx : ¬ x < 0) (he : 360 * (y2 - y1) + 30 * (m2 - m1) + (d2 - d1) = x) (hr : rN x 360 = p ∧ rD x 360 = q ∧ rE x 360 = c) :
    Calls Tryz.prog 38 #[.agg #[.int .i64 y1, .int .i64 m1, .int .i64 a1], .agg #[.int .i64 y2, .int .i64 m2, .int .i64 a2], .int .i64 d1, .int .i64 d2] w fun e' w' => e' = .returned (.tuple #[.agg #[.int .i64 p, .int .i64 q], .int .i64 c]) ∧ Below w.heap.size w w' := by
  have H := Held.start w
  have hb : x ≤ 10000000 := by omega
  have C1 : Hid (∀ v, Calls Tryz.prog 41 #[.int .i64 x, .int .i64 360] v fun e w' => e = .returned (.tuple #[.agg #[.int .i64 p, .int .i64 q], .int .i64 c]) ∧ Below v.heap.size v w') := Lib.hid (fun v => by have := refnew_any x 360 v (by omega) (by omega) (by decide) (by decide); rwa [hr.1, hr.2.1, hr.2.2] at this)
  clear hr
  go_enter Tryz.func38, Tryz.ntmps38
  go_wp2_with fail
  replace H := (((H.triple (w.heap.size) (.int .i64 y1) (.int .i64 m1) (.int .i64 a1) 78 rfl).triple (w.heap.size + 1) (.int .i64 y2) (.int .i64 m2) (.int .i64 a2) 78 (by simp)).pair (w.heap.size + 2) (.int .i64 0) (.int .i64 0) 29 (by simp))
  (with_reducible refine (C1.out _).mono ?_)
  rintro e w1 ⟨rfl, hb⟩
  replace H := H.below hb
  clear hb
  have cz0 := H.cell (w.heap.size + 2) 0 (.int .i64 0) (List.Mem.head _)
  have cz1 := H.cell (w.heap.size + 2) 1 (.int .i64 0) (List.Mem.tail _ (List.Mem.head _))
  have lz := H.lt (w.heap.size + 2) 0 (.int .i64 0) (List.Mem.head _)
  have fz0 := H.frozen (w.heap.size + 2) 0 (List.Mem.tail _ (List.Mem.tail _ (List.Mem.head _)))
  have fz1 := H.frozen (w.heap.size + 2) 1 (List.Mem.tail _ (List.Mem.tail _ (List.Mem.tail _ (List.Mem.head _))))
  have HK := H.old
  clear H
  go_wp2_with fail
  exact bodyPost_ret (v := .tuple #[.agg #[.int .i64 p, .int .i64 q], .int .i64 c]) (by simp [results, Tryz.results38, go_sem, cz0, cz1]) rfl ⟨rfl, (HK.setCell (by simp <;> omega) _).setCell (by simp <;> omega) _⟩

theorem rpart_any (y1 m1 a1 y2 m2 a2 d1 d2 p q : Int) (w : World) (by1 : 1 ≤ y1 ∧ y1 ≤ 9999) (by2 : 1 ≤ y2 ∧ y2 ≤ 9999) (bm1 : 1 ≤ m1 ∧ m1 ≤ 12) (bm2 : 1 ≤ m2 ∧ m2 ≤ 12) (bd1 : 0 ≤ d1 ∧ d1 ≤ 31) (bd2 : 0 ≤ d2 ∧ d2 ≤ 31) (hp : rN (px y1 m1 d1 y2 m2 d2) 360 = p) (hq : rD (px y1 m1 d1 y2 m2 d2) 360 = q) : Calls Tryz.prog 38 #[.agg #[.int .i64 y1, .int .i64 m1, .int .i64 a1], .agg #[.int .i64 y2, .int .i64 m2, .int .i64 a2], .int .i64 d1, .int .i64 d2] w fun e' w' => e' = .returned (.tuple #[.agg #[.int .i64 p, .int .i64 q], .int .i64 0]) ∧ Below w.heap.size w w' := by
  have bd := px_bd y1 m1 d1 y2 m2 d2 by1.1 by1.2 by2.1 by2.2 bm1.1 bm1.2 bm2.1 bm2.2 bd1.1 bd1.2 bd2.1 bd2.2
  have he := (r_yes (fit_small_ty _ bd.1 bd.2)).2.2
  by_cases hx : 360 * (y2 - y1) + 30 * (m2 - m1) + (d2 - d1) < 0
  · have e : px y1 m1 d1 y2 m2 d2 = 0 := by unfold px; rw [if_pos hx]
    rw [e] at hp hq he
    exact rpart_neg y1 m1 a1 y2 m2 a2 d1 d2 p q 0 w by1 by2 bm1 bm2 bd1 bd2 hx ⟨hp, hq, he⟩
  · have e : px y1 m1 d1 y2 m2 d2 = 360 * (y2 - y1) + 30 * (m2 - m1) + (d2 - d1) := by unfold px; rw [if_neg hx]
    rw [e] at hp hq he
    exact rpart_pos y1 m1 a1 y2 m2 a2 d1 d2 _ p q 0 w by1 by2 bm1 bm2 bd1 bd2 hx rfl ⟨hp, hq, he⟩

set_option maxHeartbeats 1000000 in
theorem re_11 (a b y1 m1 y2 m2 p q : Int) (w : World) (h1 : may y1 m1 31) (ha : nb y1 m1 31 = a) (h2 : may y2 m2 31) (hb : nb y2 m2 31 = b) (hab : a ≤ b)  (hp : rN (px y1 m1 30 y2 m2 30) 360 = p) (hq : rD (px y1 m1 30 y2 m2 30) 360 = q) :
    Calls Tryz.prog 21 #[.int .i64 a, .int .i64 b] w fun e' w' => e' = .returned (.tuple #[.agg #[.int .i64 p, .int .i64 q], .int .i64 0]) ∧ Below w.heap.size w w' := by
  have H := Held.start w
  have b1 := nb_bd _ _ _ h1
  have b2 := nb_bd _ _ _ h2
  rw [ha] at b1
  rw [hb] at b2
  have W1 : Hid (WhyIs_ty a b 0) := Lib.hid (Or.inr (Or.inr ⟨b1, b2, hab, rfl⟩))
  have O1 : Hid (DayIs a y1 m1 31 0) := Lib.hid (Or.inl ⟨h1, ha, rfl⟩)
  have O2 : Hid (DayIs b y2 m2 31 0) := Lib.hid (Or.inl ⟨h2, hb, rfl⟩)
  have l1 := ln_le y1 m1
  have l2 := ln_le y2 m2
  obtain ⟨u1, u2, u3, u4, u5, u6⟩ := h1
  obtain ⟨v1, v2, v3, v4, v5, v6⟩ := h2
  have w1 : 0 ≤ 31 ∧ 31 ≤ 31 := by omega
  have w2 : 0 ≤ 31 ∧ 31 ≤ 31 := by omega
  clear l1 l2
  have HP := Lib.hid hp
  have HQ := Lib.hid hq
  clear hp hq
  clear ha hb hab u6 v6
  go_enter Tryz.func21, Tryz.ntmps21
  go_wp2_with fail
  replace H := (H.pair (w.heap.size) (.int .i64 0) (.int .i64 0) 29 rfl)
  (with_reducible refine (rwhy_any_ty a b 0 _ W1.out).mono ?_)
  rintro e w1 ⟨rfl, hb⟩
  replace H := H.below hb
  clear hb
  go_wp2_with fail
  (with_reducible refine (rof_any a y1 m1 31 0 _ O1.out).mono ?_)
  rintro e w2 ⟨rfl, hb⟩
  replace H := H.below hb
  clear hb
  go_wp2_with fail
  replace H := (H.triple (w2.heap.size) (.int .i64 y1) (.int .i64 m1) (.int .i64 31) 78 rfl)
  (with_reducible refine (rof_any b y2 m2 31 0 _ O2.out).mono ?_)
  rintro e w3 ⟨rfl, hb⟩
  replace H := H.below hb
  clear hb
  have ca0 := H.cell (w2.heap.size) 0 (.int .i64 y1) (List.Mem.head _)
  have ca1 := H.cell (w2.heap.size) 1 (.int .i64 m1) (List.Mem.tail _ (List.Mem.head _))
  have ca2 := H.cell (w2.heap.size) 2 (.int .i64 31) (List.Mem.tail _ (List.Mem.tail _ (List.Mem.head _)))
  have la := H.lt (w2.heap.size) 0 (.int .i64 y1) (List.Mem.head _)
  go_wp2_with fail
  clear ca0 ca1 ca2 la
  replace H := (H.triple (w3.heap.size) (.int .i64 y2) (.int .i64 m2) (.int .i64 31) 78 rfl)
  (with_reducible refine (rpart_any y1 m1 31 y2 m2 31 30 30 p q _ ⟨u1, u2⟩ ⟨v1, v2⟩ ⟨u3, u4⟩ ⟨v3, v4⟩ (by omega) (by omega) HP.out HQ.out).mono ?_)
  rintro e w4 ⟨rfl, hb⟩
  replace H := H.below hb
  clear hb
  have cz0 := H.cell (w.heap.size) 0 (.int .i64 0) (List.Mem.tail _ (List.Mem.tail _ (List.Mem.tail _ (List.Mem.tail _ (List.Mem.tail _ (List.Mem.tail _ (List.Mem.tail _ (List.Mem.tail _ (List.Mem.tail _ (List.Mem.tail _ (List.Mem.tail _ (List.Mem.tail _ (List.Mem.head _)))))))))))))
  have cz1 := H.cell (w.heap.size) 1 (.int .i64 0) (List.Mem.tail _ (List.Mem.tail _ (List.Mem.tail _ (List.Mem.tail _ (List.Mem.tail _ (List.Mem.tail _ (List.Mem.tail _ (List.Mem.tail _ (List.Mem.tail _ (List.Mem.tail _ (List.Mem.tail _ (List.Mem.tail _ (List.Mem.tail _ (List.Mem.head _))))))))))))))
  have lz := H.lt (w.heap.size) 0 (.int .i64 0) (List.Mem.tail _ (List.Mem.tail _ (List.Mem.tail _ (List.Mem.tail _ (List.Mem.tail _ (List.Mem.tail _ (List.Mem.tail _ (List.Mem.tail _ (List.Mem.tail _ (List.Mem.tail _ (List.Mem.tail _ (List.Mem.tail _ (List.Mem.head _)))))))))))))
  have fz0 := H.frozen (w.heap.size) 0 (List.Mem.tail _ (List.Mem.tail _ (List.Mem.tail _ (List.Mem.tail _ (List.Mem.tail _ (List.Mem.tail _ (List.Mem.tail _ (List.Mem.tail _ (List.Mem.tail _ (List.Mem.tail _ (List.Mem.tail _ (List.Mem.tail _ (List.Mem.tail _ (List.Mem.tail _ (List.Mem.head _)))))))))))))))
  have fz1 := H.frozen (w.heap.size) 1 (List.Mem.tail _ (List.Mem.tail _ (List.Mem.tail _ (List.Mem.tail _ (List.Mem.tail _ (List.Mem.tail _ (List.Mem.tail _ (List.Mem.tail _ (List.Mem.tail _ (List.Mem.tail _ (List.Mem.tail _ (List.Mem.tail _ (List.Mem.tail _ (List.Mem.tail _ (List.Mem.tail _ (List.Mem.head _))))))))))))))))
  have HK := H.old
  clear H
  go_wp2_with fail
  exact bodyPost_ret (v := .tuple #[.agg #[.int .i64 p, .int .i64 q], .int .i64 0]) (by simp [results, Tryz.results21, go_sem, cz0, cz1]) rfl ⟨rfl, (HK.setCell (by simp <;> omega) _).setCell (by simp <;> omega) _⟩

set_option maxHeartbeats 1000000 in
theorem re_10 (a b y1 m1 y2 m2 d2 p q : Int) (w : World) (h1 : may y1 m1 31) (ha : nb y1 m1 31 = a) (h2 : may y2 m2 d2) (hb : nb y2 m2 d2 = b) (hab : a ≤ b)  (n2 : d2 ≠ 31) (hp : rN (px y1 m1 30 y2 m2 d2) 360 = p) (hq : rD (px y1 m1 30 y2 m2 d2) 360 = q) :
    Calls Tryz.prog 21 #[.int .i64 a, .int .i64 b] w fun e' w' => e' = .returned (.tuple #[.agg #[.int .i64 p, .int .i64 q], .int .i64 0]) ∧ Below w.heap.size w w' := by
  have H := Held.start w
  have b1 := nb_bd _ _ _ h1
  have b2 := nb_bd _ _ _ h2
  rw [ha] at b1
  rw [hb] at b2
  have W1 : Hid (WhyIs_ty a b 0) := Lib.hid (Or.inr (Or.inr ⟨b1, b2, hab, rfl⟩))
  have O1 : Hid (DayIs a y1 m1 31 0) := Lib.hid (Or.inl ⟨h1, ha, rfl⟩)
  have O2 : Hid (DayIs b y2 m2 d2 0) := Lib.hid (Or.inl ⟨h2, hb, rfl⟩)
  have l1 := ln_le y1 m1
  have l2 := ln_le y2 m2
  obtain ⟨u1, u2, u3, u4, u5, u6⟩ := h1
  obtain ⟨v1, v2, v3, v4, v5, v6⟩ := h2
  have w1 : 0 ≤ 31 ∧ 31 ≤ 31 := by omega
  have w2 : 0 ≤ d2 ∧ d2 ≤ 31 := by omega
  clear l1 l2
  have HP := Lib.hid hp
  have HQ := Lib.hid hq
  clear hp hq
  have t2 : (d2 == 31) = false := beq_eq_false_iff_ne.2 n2
  clear ha hb hab u6 v6
  go_enter Tryz.func21, Tryz.ntmps21
  go_wp2_with fail
  replace H := (H.pair (w.heap.size) (.int .i64 0) (.int .i64 0) 29 rfl)
  (with_reducible refine (rwhy_any_ty a b 0 _ W1.out).mono ?_)
  rintro e w1 ⟨rfl, hb⟩
  replace H := H.below hb
  clear hb
  go_wp2_with fail
  (with_reducible refine (rof_any a y1 m1 31 0 _ O1.out).mono ?_)
  rintro e w2 ⟨rfl, hb⟩
  replace H := H.below hb
  clear hb
  go_wp2_with fail
  replace H := (H.triple (w2.heap.size) (.int .i64 y1) (.int .i64 m1) (.int .i64 31) 78 rfl)
  (with_reducible refine (rof_any b y2 m2 d2 0 _ O2.out).mono ?_)
  rintro e w3 ⟨rfl, hb⟩
  replace H := H.below hb
  clear hb
  have ca0 := H.cell (w2.heap.size) 0 (.int .i64 y1) (List.Mem.head _)
  have ca1 := H.cell (w2.heap.size) 1 (.int .i64 m1) (List.Mem.tail _ (List.Mem.head _))
  have ca2 := H.cell (w2.heap.size) 2 (.int .i64 31) (List.Mem.tail _ (List.Mem.tail _ (List.Mem.head _)))
  have la := H.lt (w2.heap.size) 0 (.int .i64 y1) (List.Mem.head _)
  go_wp2_with fail
  clear ca0 ca1 ca2 la
  replace H := (H.triple (w3.heap.size) (.int .i64 y2) (.int .i64 m2) (.int .i64 d2) 78 rfl)
  (with_reducible refine (rpart_any y1 m1 31 y2 m2 d2 30 d2 p q _ ⟨u1, u2⟩ ⟨v1, v2⟩ ⟨u3, u4⟩ ⟨v3, v4⟩ (by omega) (by omega) HP.out HQ.out).mono ?_)
  rintro e w4 ⟨rfl, hb⟩
  replace H := H.below hb
  clear hb
  have cz0 := H.cell (w.heap.size) 0 (.int .i64 0) (List.Mem.tail _ (List.Mem.tail _ (List.Mem.tail _ (List.Mem.tail _ (List.Mem.tail _ (List.Mem.tail _ (List.Mem.tail _ (List.Mem.tail _ (List.Mem.tail _ (List.Mem.tail _ (List.Mem.tail _ (List.Mem.tail _ (List.Mem.head _)))))))))))))
  have cz1 := H.cell (w.heap.size) 1 (.int .i64 0) (List.Mem.tail _ (List.Mem.tail _ (List.Mem.tail _ (List.Mem.tail _ (List.Mem.tail _ (List.Mem.tail _ (List.Mem.tail _ (List.Mem.tail _ (List.Mem.tail _ (List.Mem.tail _ (List.Mem.tail _ (List.Mem.tail _ (List.Mem.tail _ (List.Mem.head _))))))))))))))
  have lz := H.lt (w.heap.size) 0 (.int .i64 0) (List.Mem.tail _ (List.Mem.tail _ (List.Mem.tail _ (List.Mem.tail _ (List.Mem.tail _ (List.Mem.tail _ (List.Mem.tail _ (List.Mem.tail _ (List.Mem.tail _ (List.Mem.tail _ (List.Mem.tail _ (List.Mem.tail _ (List.Mem.head _)))))))))))))
  have fz0 := H.frozen (w.heap.size) 0 (List.Mem.tail _ (List.Mem.tail _ (List.Mem.tail _ (List.Mem.tail _ (List.Mem.tail _ (List.Mem.tail _ (List.Mem.tail _ (List.Mem.tail _ (List.Mem.tail _ (List.Mem.tail _ (List.Mem.tail _ (List.Mem.tail _ (List.Mem.tail _ (List.Mem.tail _ (List.Mem.head _)))))))))))))))
  have fz1 := H.frozen (w.heap.size) 1 (List.Mem.tail _ (List.Mem.tail _ (List.Mem.tail _ (List.Mem.tail _ (List.Mem.tail _ (List.Mem.tail _ (List.Mem.tail _ (List.Mem.tail _ (List.Mem.tail _ (List.Mem.tail _ (List.Mem.tail _ (List.Mem.tail _ (List.Mem.tail _ (List.Mem.tail _ (List.Mem.tail _ (List.Mem.head _))))))))))))))))
  have HK := H.old
  clear H
  go_wp2_with fail
  exact bodyPost_ret (v := .tuple #[.agg #[.int .i64 p, .int .i64 q], .int .i64 0]) (by simp [results, Tryz.results21, go_sem, cz0, cz1]) rfl ⟨rfl, (HK.setCell (by simp <;> omega) _).setCell (by simp <;> omega) _⟩

set_option maxHeartbeats 1000000 in
theorem re_01 (a b y1 m1 d1 y2 m2 p q : Int) (w : World) (h1 : may y1 m1 d1) (ha : nb y1 m1 d1 = a) (h2 : may y2 m2 31) (hb : nb y2 m2 31 = b) (hab : a ≤ b)  (n1 : d1 ≠ 31) (hp : rN (px y1 m1 d1 y2 m2 30) 360 = p) (hq : rD (px y1 m1 d1 y2 m2 30) 360 = q) :
    Calls Tryz.prog 21 #[.int .i64 a, .int .i64 b] w fun e' w' => e' = .returned (.tuple #[.agg #[.int .i64 p, .int .i64 q], .int .i64 0]) ∧ Below w.heap.size w w' := by
  have H := Held.start w
  have b1 := nb_bd _ _ _ h1
  have b2 := nb_bd _ _ _ h2
  rw [ha] at b1
  rw [hb] at b2
  have W1 : Hid (WhyIs_ty a b 0) := Lib.hid (Or.inr (Or.inr ⟨b1, b2, hab, rfl⟩))
  have O1 : Hid (DayIs a y1 m1 d1 0) := Lib.hid (Or.inl ⟨h1, ha, rfl⟩)
  have O2 : Hid (DayIs b y2 m2 31 0) := Lib.hid (Or.inl ⟨h2, hb, rfl⟩)
  have l1 := ln_le y1 m1
  have l2 := ln_le y2 m2
  obtain ⟨u1, u2, u3, u4, u5, u6⟩ := h1
  obtain ⟨v1, v2, v3, v4, v5, v6⟩ := h2
  have w1 : 0 ≤ d1 ∧ d1 ≤ 31 := by omega
  have w2 : 0 ≤ 31 ∧ 31 ≤ 31 := by omega
  clear l1 l2
  have HP := Lib.hid hp
  have HQ := Lib.hid hq
  clear hp hq
  have t1 : (d1 == 31) = false := beq_eq_false_iff_ne.2 n1
  clear ha hb hab u6 v6
  go_enter Tryz.func21, Tryz.ntmps21
  go_wp2_with fail
  replace H := (H.pair (w.heap.size) (.int .i64 0) (.int .i64 0) 29 rfl)
  (with_reducible refine (rwhy_any_ty a b 0 _ W1.out).mono ?_)
  rintro e w1 ⟨rfl, hb⟩
  replace H := H.below hb
  clear hb
  go_wp2_with fail
  (with_reducible refine (rof_any a y1 m1 d1 0 _ O1.out).mono ?_)
  rintro e w2 ⟨rfl, hb⟩
  replace H := H.below hb
  clear hb
  go_wp2_with fail
  replace H := (H.triple (w2.heap.size) (.int .i64 y1) (.int .i64 m1) (.int .i64 d1) 78 rfl)
  (with_reducible refine (rof_any b y2 m2 31 0 _ O2.out).mono ?_)
  rintro e w3 ⟨rfl, hb⟩
  replace H := H.below hb
  clear hb
  have ca0 := H.cell (w2.heap.size) 0 (.int .i64 y1) (List.Mem.head _)
  have ca1 := H.cell (w2.heap.size) 1 (.int .i64 m1) (List.Mem.tail _ (List.Mem.head _))
  have ca2 := H.cell (w2.heap.size) 2 (.int .i64 d1) (List.Mem.tail _ (List.Mem.tail _ (List.Mem.head _)))
  have la := H.lt (w2.heap.size) 0 (.int .i64 y1) (List.Mem.head _)
  go_wp2_with fail
  clear ca0 ca1 ca2 la
  replace H := (H.triple (w3.heap.size) (.int .i64 y2) (.int .i64 m2) (.int .i64 31) 78 rfl)
  (with_reducible refine (rpart_any y1 m1 d1 y2 m2 31 d1 30 p q _ ⟨u1, u2⟩ ⟨v1, v2⟩ ⟨u3, u4⟩ ⟨v3, v4⟩ (by omega) (by omega) HP.out HQ.out).mono ?_)
  rintro e w4 ⟨rfl, hb⟩
  replace H := H.below hb
  clear hb
  have cz0 := H.cell (w.heap.size) 0 (.int .i64 0) (List.Mem.tail _ (List.Mem.tail _ (List.Mem.tail _ (List.Mem.tail _ (List.Mem.tail _ (List.Mem.tail _ (List.Mem.tail _ (List.Mem.tail _ (List.Mem.tail _ (List.Mem.tail _ (List.Mem.tail _ (List.Mem.tail _ (List.Mem.head _)))))))))))))
  have cz1 := H.cell (w.heap.size) 1 (.int .i64 0) (List.Mem.tail _ (List.Mem.tail _ (List.Mem.tail _ (List.Mem.tail _ (List.Mem.tail _ (List.Mem.tail _ (List.Mem.tail _ (List.Mem.tail _ (List.Mem.tail _ (List.Mem.tail _ (List.Mem.tail _ (List.Mem.tail _ (List.Mem.tail _ (List.Mem.head _))))))))))))))
  have lz := H.lt (w.heap.size) 0 (.int .i64 0) (List.Mem.tail _ (List.Mem.tail _ (List.Mem.tail _ (List.Mem.tail _ (List.Mem.tail _ (List.Mem.tail _ (List.Mem.tail _ (List.Mem.tail _ (List.Mem.tail _ (List.Mem.tail _ (List.Mem.tail _ (List.Mem.tail _ (List.Mem.head _)))))))))))))
  have fz0 := H.frozen (w.heap.size) 0 (List.Mem.tail _ (List.Mem.tail _ (List.Mem.tail _ (List.Mem.tail _ (List.Mem.tail _ (List.Mem.tail _ (List.Mem.tail _ (List.Mem.tail _ (List.Mem.tail _ (List.Mem.tail _ (List.Mem.tail _ (List.Mem.tail _ (List.Mem.tail _ (List.Mem.tail _ (List.Mem.head _)))))))))))))))
  have fz1 := H.frozen (w.heap.size) 1 (List.Mem.tail _ (List.Mem.tail _ (List.Mem.tail _ (List.Mem.tail _ (List.Mem.tail _ (List.Mem.tail _ (List.Mem.tail _ (List.Mem.tail _ (List.Mem.tail _ (List.Mem.tail _ (List.Mem.tail _ (List.Mem.tail _ (List.Mem.tail _ (List.Mem.tail _ (List.Mem.tail _ (List.Mem.head _))))))))))))))))
  have HK := H.old
  clear H
  go_wp2_with fail
  exact bodyPost_ret (v := .tuple #[.agg #[.int .i64 p, .int .i64 q], .int .i64 0]) (by simp [results, Tryz.results21, go_sem, cz0, cz1]) rfl ⟨rfl, (HK.setCell (by simp <;> omega) _).setCell (by simp <;> omega) _⟩

set_option maxHeartbeats 1000000 in
theorem re_00 (a b y1 m1 d1 y2 m2 d2 p q : Int) (w : World) (h1 : may y1 m1 d1) (ha : nb y1 m1 d1 = a) (h2 : may y2 m2 d2) (hb : nb y2 m2 d2 = b) (hab : a ≤ b)  (n1 : d1 ≠ 31) (n2 : d2 ≠ 31) (hp : rN (px y1 m1 d1 y2 m2 d2) 360 = p) (hq : rD (px y1 m1 d1 y2 m2 d2) 360 = q) :
    Calls Tryz.prog 21 #[.int .i64 a, .int .i64 b] w fun e' w' => e' = .returned (.tuple #[.agg #[.int .i64 p, .int .i64 q], .int .i64 0]) ∧ Below w.heap.size w w' := by
  have H := Held.start w
  have b1 := nb_bd _ _ _ h1
  have b2 := nb_bd _ _ _ h2
  rw [ha] at b1
  rw [hb] at b2
  have W1 : Hid (WhyIs_ty a b 0) := Lib.hid (Or.inr (Or.inr ⟨b1, b2, hab, rfl⟩))
  have O1 : Hid (DayIs a y1 m1 d1 0) := Lib.hid (Or.inl ⟨h1, ha, rfl⟩)
  have O2 : Hid (DayIs b y2 m2 d2 0) := Lib.hid (Or.inl ⟨h2, hb, rfl⟩)
  have l1 := ln_le y1 m1
  have l2 := ln_le y2 m2
  obtain ⟨u1, u2, u3, u4, u5, u6⟩ := h1
  obtain ⟨v1, v2, v3, v4, v5, v6⟩ := h2
  have w1 : 0 ≤ d1 ∧ d1 ≤ 31 := by omega
  have w2 : 0 ≤ d2 ∧ d2 ≤ 31 := by omega
  clear l1 l2
  have HP := Lib.hid hp
  have HQ := Lib.hid hq
  clear hp hq
  have t1 : (d1 == 31) = false := beq_eq_false_iff_ne.2 n1
  have t2 : (d2 == 31) = false := beq_eq_false_iff_ne.2 n2
  clear ha hb hab u6 v6
  go_enter Tryz.func21, Tryz.ntmps21
  go_wp2_with fail
  replace H := (H.pair (w.heap.size) (.int .i64 0) (.int .i64 0) 29 rfl)
  (with_reducible refine (rwhy_any_ty a b 0 _ W1.out).mono ?_)
  rintro e w1 ⟨rfl, hb⟩
  replace H := H.below hb
  clear hb
  go_wp2_with fail
  (with_reducible refine (rof_any a y1 m1 d1 0 _ O1.out).mono ?_)
  rintro e w2 ⟨rfl, hb⟩
  replace H := H.below hb
  clear hb
  go_wp2_with fail
  replace H := (H.triple (w2.heap.size) (.int .i64 y1) (.int .i64 m1) (.int .i64 d1) 78 rfl)
  (with_reducible refine (rof_any b y2 m2 d2 0 _ O2.out).mono ?_)
  rintro e w3 ⟨rfl, hb⟩
  replace H := H.below hb
  clear hb
  have ca0 := H.cell (w2.heap.size) 0 (.int .i64 y1) (List.Mem.head _)
  have ca1 := H.cell (w2.heap.size) 1 (.int .i64 m1) (List.Mem.tail _ (List.Mem.head _))
  have ca2 := H.cell (w2.heap.size) 2 (.int .i64 d1) (List.Mem.tail _ (List.Mem.tail _ (List.Mem.head _)))
  have la := H.lt (w2.heap.size) 0 (.int .i64 y1) (List.Mem.head _)
  go_wp2_with fail
  clear ca0 ca1 ca2 la
  replace H := (H.triple (w3.heap.size) (.int .i64 y2) (.int .i64 m2) (.int .i64 d2) 78 rfl)
  (with_reducible refine (rpart_any y1 m1 d1 y2 m2 d2 d1 d2 p q _ ⟨u1, u2⟩ ⟨v1, v2⟩ ⟨u3, u4⟩ ⟨v3, v4⟩ (by omega) (by omega) HP.out HQ.out).mono ?_)
  rintro e w4 ⟨rfl, hb⟩
  replace H := H.below hb
  clear hb
  have cz0 := H.cell (w.heap.size) 0 (.int .i64 0) (List.Mem.tail _ (List.Mem.tail _ (List.Mem.tail _ (List.Mem.tail _ (List.Mem.tail _ (List.Mem.tail _ (List.Mem.tail _ (List.Mem.tail _ (List.Mem.tail _ (List.Mem.tail _ (List.Mem.tail _ (List.Mem.tail _ (List.Mem.head _)))))))))))))
  have cz1 := H.cell (w.heap.size) 1 (.int .i64 0) (List.Mem.tail _ (List.Mem.tail _ (List.Mem.tail _ (List.Mem.tail _ (List.Mem.tail _ (List.Mem.tail _ (List.Mem.tail _ (List.Mem.tail _ (List.Mem.tail _ (List.Mem.tail _ (List.Mem.tail _ (List.Mem.tail _ (List.Mem.tail _ (List.Mem.head _))))))))))))))
  have lz := H.lt (w.heap.size) 0 (.int .i64 0) (List.Mem.tail _ (List.Mem.tail _ (List.Mem.tail _ (List.Mem.tail _ (List.Mem.tail _ (List.Mem.tail _ (List.Mem.tail _ (List.Mem.tail _ (List.Mem.tail _ (List.Mem.tail _ (List.Mem.tail _ (List.Mem.tail _ (List.Mem.head _)))))))))))))
  have fz0 := H.frozen (w.heap.size) 0 (List.Mem.tail _ (List.Mem.tail _ (List.Mem.tail _ (List.Mem.tail _ (List.Mem.tail _ (List.Mem.tail _ (List.Mem.tail _ (List.Mem.tail _ (List.Mem.tail _ (List.Mem.tail _ (List.Mem.tail _ (List.Mem.tail _ (List.Mem.tail _ (List.Mem.tail _ (List.Mem.head _)))))))))))))))
  have fz1 := H.frozen (w.heap.size) 1 (List.Mem.tail _ (List.Mem.tail _ (List.Mem.tail _ (List.Mem.tail _ (List.Mem.tail _ (List.Mem.tail _ (List.Mem.tail _ (List.Mem.tail _ (List.Mem.tail _ (List.Mem.tail _ (List.Mem.tail _ (List.Mem.tail _ (List.Mem.tail _ (List.Mem.tail _ (List.Mem.tail _ (List.Mem.head _))))))))))))))))
  have HK := H.old
  clear H
  go_wp2_with fail
  exact bodyPost_ret (v := .tuple #[.agg #[.int .i64 p, .int .i64 q], .int .i64 0]) (by simp [results, Tryz.results21, go_sem, cz0, cz1]) rfl ⟨rfl, (HK.setCell (by simp <;> omega) _).setCell (by simp <;> omega) _⟩

set_option maxHeartbeats 1000000 in
theorem re_day (a b : Int) (w : World) (h : (a < 1 ∨ 3652059 < a) ∨ (b < 1 ∨ 3652059 < b)) :
    Calls Tryz.prog 21 #[.int .i64 a, .int .i64 b] w fun e' w' => e' = .returned (.tuple #[.agg #[.int .i64 0, .int .i64 0], .int .i64 3]) ∧ Below w.heap.size w w' := by
  have H := Held.start w
  have W1 : Hid (WhyIs_ty a b 3) := Lib.hid (Or.inl ⟨h, rfl⟩)
  go_enter Tryz.func21, Tryz.ntmps21
  go_wp2_with fail
  replace H := (H.pair (w.heap.size) (.int .i64 0) (.int .i64 0) 29 rfl)
  (with_reducible refine (rwhy_any_ty a b 3 _ W1.out).mono ?_)
  rintro e w1 ⟨rfl, hb⟩
  replace H := H.below hb
  clear hb
  have cz0 := H.cell (w.heap.size) 0 (.int .i64 0) (List.Mem.head _)
  have cz1 := H.cell (w.heap.size) 1 (.int .i64 0) (List.Mem.tail _ (List.Mem.head _))
  have lz := H.lt (w.heap.size) 0 (.int .i64 0) (List.Mem.head _)
  have fz0 := H.frozen (w.heap.size) 0 (List.Mem.tail _ (List.Mem.tail _ (List.Mem.head _)))
  have fz1 := H.frozen (w.heap.size) 1 (List.Mem.tail _ (List.Mem.tail _ (List.Mem.tail _ (List.Mem.head _))))
  have HK := H.old
  clear H
  go_wp2_with fail
  exact bodyPost_ret (v := .tuple #[.agg #[.int .i64 0, .int .i64 0], .int .i64 3]) (by simp [results, Tryz.results21, go_sem, cz0, cz1]) rfl ⟨rfl, (HK.setCell (by simp <;> omega) _).setCell (by simp <;> omega) _⟩

set_option maxHeartbeats 1000000 in
theorem re_order (a b : Int) (w : World) (h1 : 1 ≤ a ∧ a ≤ 3652059) (h2 : 1 ≤ b ∧ b ≤ 3652059) (h : b < a) :
    Calls Tryz.prog 21 #[.int .i64 a, .int .i64 b] w fun e' w' => e' = .returned (.tuple #[.agg #[.int .i64 0, .int .i64 0], .int .i64 4]) ∧ Below w.heap.size w w' := by
  have H := Held.start w
  have W1 : Hid (WhyIs_ty a b 4) := Lib.hid (Or.inr (Or.inl ⟨h1, h2, h, rfl⟩))
  go_enter Tryz.func21, Tryz.ntmps21
  go_wp2_with fail
  replace H := (H.pair (w.heap.size) (.int .i64 0) (.int .i64 0) 29 rfl)
  (with_reducible refine (rwhy_any_ty a b 4 _ W1.out).mono ?_)
  rintro e w1 ⟨rfl, hb⟩
  replace H := H.below hb
  clear hb
  have cz0 := H.cell (w.heap.size) 0 (.int .i64 0) (List.Mem.head _)
  have cz1 := H.cell (w.heap.size) 1 (.int .i64 0) (List.Mem.tail _ (List.Mem.head _))
  have lz := H.lt (w.heap.size) 0 (.int .i64 0) (List.Mem.head _)
  have fz0 := H.frozen (w.heap.size) 0 (List.Mem.tail _ (List.Mem.tail _ (List.Mem.head _)))
  have fz1 := H.frozen (w.heap.size) 1 (List.Mem.tail _ (List.Mem.tail _ (List.Mem.tail _ (List.Mem.head _))))
  have HK := H.old
  clear H
  go_wp2_with fail
  exact bodyPost_ret (v := .tuple #[.agg #[.int .i64 0, .int .i64 0], .int .i64 4]) (by simp [results, Tryz.results21, go_sem, cz0, cz1]) rfl ⟨rfl, (HK.setCell (by simp <;> omega) _).setCell (by simp <;> omega) _⟩

theorem re_any (a b p q c : Int) (w : World) (h : PartIs eX a b p q c) : Calls Tryz.prog 21 #[.int .i64 a, .int .i64 b] w fun e' w' => e' = .returned (.tuple #[.agg #[.int .i64 p, .int .i64 q], .int .i64 c]) ∧ Below w.heap.size w w' := by
  rcases h with ⟨y1, m1, d1, y2, m2, d2, h1, ha, h2, hb, hab, hp, hq, rfl⟩ | ⟨h, rfl, rfl, rfl⟩ | ⟨h1, h2, h, rfl, rfl, rfl⟩
  · unfold eX cutD at hp hq
    by_cases n1 : d1 = 31
    · subst n1
      by_cases n2 : d2 = 31
      · subst n2
        exact re_11 a b y1 m1 y2 m2 p q w h1 ha h2 hb hab (by simpa using hp) (by simpa using hq)
      · rw [if_neg n2] at hp hq
        exact re_10 a b y1 m1 y2 m2 d2 p q w h1 ha h2 hb hab n2 (by simpa using hp) (by simpa using hq)
    · rw [if_neg n1] at hp hq
      by_cases n2 : d2 = 31
      · subst n2
        exact re_01 a b y1 m1 d1 y2 m2 p q w h1 ha h2 hb hab n1 (by simpa using hp) (by simpa using hq)
      · rw [if_neg n2] at hp hq
        exact re_00 a b y1 m1 d1 y2 m2 d2 p q w h1 ha h2 hb hab n1 n2 hp hq
  · exact re_day a b w h
  · exact re_order a b w h1 h2 h

set_option maxHeartbeats 1000000 in
theorem risda_00 (a b y1 m1 d1 y2 m2 d2 p q : Int) (k : Int) (w : World) (h1 : may y1 m1 d1) (ha : nb y1 m1 d1 = a) (h2 : may y2 m2 d2) (hb : nb y2 m2 d2 = b) (hab : a ≤ b) (hl1 : decide (d1 = ln y1 m1) = false) (hl2 : decide (d2 = ln y2 m2) = false)  (hp : rN (px y1 m1 d1 y2 m2 d2) 360 = p) (hq : rD (px y1 m1 d1 y2 m2 d2) 360 = q) :
    Calls Tryz.prog 22 #[.int .i64 a, .int .i64 b, .int .i64 k] w fun e' w' => e' = .returned (.tuple #[.agg #[.int .i64 p, .int .i64 q], .int .i64 0]) ∧ Below w.heap.size w w' := by
  have H := Held.start w
  have b1 := nb_bd _ _ _ h1
  have b2 := nb_bd _ _ _ h2
  rw [ha] at b1
  rw [hb] at b2
  have W1 : Hid (WhyIs_ty a b 0) := Lib.hid (Or.inr (Or.inr ⟨b1, b2, hab, rfl⟩))
  have O1 : Hid (DayIs a y1 m1 d1 0) := Lib.hid (Or.inl ⟨h1, ha, rfl⟩)
  have O2 : Hid (DayIs b y2 m2 d2 0) := Lib.hid (Or.inl ⟨h2, hb, rfl⟩)
  have l1 := ln_le y1 m1
  have l2 := ln_le y2 m2
  obtain ⟨u1, u2, u3, u4, u5, u6⟩ := h1
  obtain ⟨v1, v2, v3, v4, v5, v6⟩ := h2
  have w1 : 0 ≤ d1 ∧ d1 ≤ 31 := by omega
  have w2 : 0 ≤ d2 ∧ d2 ≤ 31 := by omega
  clear l1 l2
  have HP := Lib.hid hp
  have HQ := Lib.hid hq
  clear hp hq
  have L1 : Hid (LastIs a false) := Lib.hid (last_in y1 m1 d1 ⟨u1, u2, u3, u4, u5, u6⟩ ha hl1)
  have L2 : Hid (LastIs b false) := Lib.hid (last_in y2 m2 d2 ⟨v1, v2, v3, v4, v5, v6⟩ hb hl2)
  clear hl1 hl2
  clear ha hb hab u6 v6
  go_enter Tryz.func22, Tryz.ntmps22
  go_wp2_with fail
  replace H := (H.pair (w.heap.size) (.int .i64 0) (.int .i64 0) 29 rfl)
  (with_reducible refine (rwhy_any_ty a b 0 _ W1.out).mono ?_)
  rintro e w1 ⟨rfl, hb⟩
  replace H := H.below hb
  clear hb
  go_wp2_with fail
  (with_reducible refine (rof_any a y1 m1 d1 0 _ O1.out).mono ?_)
  rintro e w2 ⟨rfl, hb⟩
  replace H := H.below hb
  clear hb
  go_wp2_with fail
  replace H := (H.triple (w2.heap.size) (.int .i64 y1) (.int .i64 m1) (.int .i64 d1) 78 rfl)
  (with_reducible refine (rof_any b y2 m2 d2 0 _ O2.out).mono ?_)
  rintro e w3 ⟨rfl, hb⟩
  replace H := H.below hb
  clear hb
  have ca0 := H.cell (w2.heap.size) 0 (.int .i64 y1) (List.Mem.head _)
  have ca1 := H.cell (w2.heap.size) 1 (.int .i64 m1) (List.Mem.tail _ (List.Mem.head _))
  have ca2 := H.cell (w2.heap.size) 2 (.int .i64 d1) (List.Mem.tail _ (List.Mem.tail _ (List.Mem.head _)))
  have la := H.lt (w2.heap.size) 0 (.int .i64 y1) (List.Mem.head _)
  go_wp2_with fail
  clear ca0 ca1 ca2 la
  replace H := (H.triple (w3.heap.size) (.int .i64 y2) (.int .i64 m2) (.int .i64 d2) 78 rfl)
  (with_reducible refine (rlast_any a false _ L1.out).mono ?_)
  rintro e w4 ⟨rfl, hb⟩
  replace H := H.below hb
  clear hb
  have ca0 := H.cell (w2.heap.size) 0 (.int .i64 y1) (List.Mem.tail _ (List.Mem.tail _ (List.Mem.tail _ (List.Mem.tail _ (List.Mem.tail _ (List.Mem.tail _ (List.Mem.head _)))))))
  have ca1 := H.cell (w2.heap.size) 1 (.int .i64 m1) (List.Mem.tail _ (List.Mem.tail _ (List.Mem.tail _ (List.Mem.tail _ (List.Mem.tail _ (List.Mem.tail _ (List.Mem.tail _ (List.Mem.head _))))))))
  have ca2 := H.cell (w2.heap.size) 2 (.int .i64 d1) (List.Mem.tail _ (List.Mem.tail _ (List.Mem.tail _ (List.Mem.tail _ (List.Mem.tail _ (List.Mem.tail _ (List.Mem.tail _ (List.Mem.tail _ (List.Mem.head _)))))))))
  have la := H.lt (w2.heap.size) 0 (.int .i64 y1) (List.Mem.tail _ (List.Mem.tail _ (List.Mem.tail _ (List.Mem.tail _ (List.Mem.tail _ (List.Mem.tail _ (List.Mem.head _)))))))
  have cb0 := H.cell (w3.heap.size) 0 (.int .i64 y2) (List.Mem.head _)
  have cb1 := H.cell (w3.heap.size) 1 (.int .i64 m2) (List.Mem.tail _ (List.Mem.head _))
  have cb2 := H.cell (w3.heap.size) 2 (.int .i64 d2) (List.Mem.tail _ (List.Mem.tail _ (List.Mem.head _)))
  have lb := H.lt (w3.heap.size) 0 (.int .i64 y2) (List.Mem.head _)
  go_wp2_with fail
  clear ca0 ca1 ca2 la cb0 cb1 cb2 lb
  (with_reducible refine (rlast_any b false _ L2.out).mono ?_)
  rintro e w5 ⟨rfl, hb⟩
  replace H := H.below hb
  clear hb
  have ca0 := H.cell (w2.heap.size) 0 (.int .i64 y1) (List.Mem.tail _ (List.Mem.tail _ (List.Mem.tail _ (List.Mem.tail _ (List.Mem.tail _ (List.Mem.tail _ (List.Mem.head _)))))))
  have ca1 := H.cell (w2.heap.size) 1 (.int .i64 m1) (List.Mem.tail _ (List.Mem.tail _ (List.Mem.tail _ (List.Mem.tail _ (List.Mem.tail _ (List.Mem.tail _ (List.Mem.tail _ (List.Mem.head _))))))))
  have ca2 := H.cell (w2.heap.size) 2 (.int .i64 d1) (List.Mem.tail _ (List.Mem.tail _ (List.Mem.tail _ (List.Mem.tail _ (List.Mem.tail _ (List.Mem.tail _ (List.Mem.tail _ (List.Mem.tail _ (List.Mem.head _)))))))))
  have la := H.lt (w2.heap.size) 0 (.int .i64 y1) (List.Mem.tail _ (List.Mem.tail _ (List.Mem.tail _ (List.Mem.tail _ (List.Mem.tail _ (List.Mem.tail _ (List.Mem.head _)))))))
  have cb0 := H.cell (w3.heap.size) 0 (.int .i64 y2) (List.Mem.head _)
  have cb1 := H.cell (w3.heap.size) 1 (.int .i64 m2) (List.Mem.tail _ (List.Mem.head _))
  have cb2 := H.cell (w3.heap.size) 2 (.int .i64 d2) (List.Mem.tail _ (List.Mem.tail _ (List.Mem.head _)))
  have lb := H.lt (w3.heap.size) 0 (.int .i64 y2) (List.Mem.head _)
  go_wp2_with fail
  clear ca0 ca1 ca2 la cb0 cb1 cb2 lb
  (with_reducible refine (rpart_any y1 m1 d1 y2 m2 d2 d1 d2 p q _ ⟨u1, u2⟩ ⟨v1, v2⟩ ⟨u3, u4⟩ ⟨v3, v4⟩ (by omega) (by omega) HP.out HQ.out).mono ?_)
  rintro e w6 ⟨rfl, hb⟩
  replace H := H.below hb
  clear hb
  have cz0 := H.cell (w.heap.size) 0 (.int .i64 0) (List.Mem.tail _ (List.Mem.tail _ (List.Mem.tail _ (List.Mem.tail _ (List.Mem.tail _ (List.Mem.tail _ (List.Mem.tail _ (List.Mem.tail _ (List.Mem.tail _ (List.Mem.tail _ (List.Mem.tail _ (List.Mem.tail _ (List.Mem.head _)))))))))))))
  have cz1 := H.cell (w.heap.size) 1 (.int .i64 0) (List.Mem.tail _ (List.Mem.tail _ (List.Mem.tail _ (List.Mem.tail _ (List.Mem.tail _ (List.Mem.tail _ (List.Mem.tail _ (List.Mem.tail _ (List.Mem.tail _ (List.Mem.tail _ (List.Mem.tail _ (List.Mem.tail _ (List.Mem.tail _ (List.Mem.head _))))))))))))))
  have lz := H.lt (w.heap.size) 0 (.int .i64 0) (List.Mem.tail _ (List.Mem.tail _ (List.Mem.tail _ (List.Mem.tail _ (List.Mem.tail _ (List.Mem.tail _ (List.Mem.tail _ (List.Mem.tail _ (List.Mem.tail _ (List.Mem.tail _ (List.Mem.tail _ (List.Mem.tail _ (List.Mem.head _)))))))))))))
  have fz0 := H.frozen (w.heap.size) 0 (List.Mem.tail _ (List.Mem.tail _ (List.Mem.tail _ (List.Mem.tail _ (List.Mem.tail _ (List.Mem.tail _ (List.Mem.tail _ (List.Mem.tail _ (List.Mem.tail _ (List.Mem.tail _ (List.Mem.tail _ (List.Mem.tail _ (List.Mem.tail _ (List.Mem.tail _ (List.Mem.head _)))))))))))))))
  have fz1 := H.frozen (w.heap.size) 1 (List.Mem.tail _ (List.Mem.tail _ (List.Mem.tail _ (List.Mem.tail _ (List.Mem.tail _ (List.Mem.tail _ (List.Mem.tail _ (List.Mem.tail _ (List.Mem.tail _ (List.Mem.tail _ (List.Mem.tail _ (List.Mem.tail _ (List.Mem.tail _ (List.Mem.tail _ (List.Mem.tail _ (List.Mem.head _))))))))))))))))
  have HK := H.old
  clear H
  go_wp2_with fail
  exact bodyPost_ret (v := .tuple #[.agg #[.int .i64 p, .int .i64 q], .int .i64 0]) (by simp [results, Tryz.results22, go_sem, cz0, cz1]) rfl ⟨rfl, (HK.setCell (by simp <;> omega) _).setCell (by simp <;> omega) _⟩

set_option maxHeartbeats 1000000 in
theorem risda_01 (a b y1 m1 d1 y2 m2 d2 p q : Int) (k : Int) (w : World) (h1 : may y1 m1 d1) (ha : nb y1 m1 d1 = a) (h2 : may y2 m2 d2) (hb : nb y2 m2 d2 = b) (hab : a ≤ b) (hl1 : decide (d1 = ln y1 m1) = false) (hl2 : decide (d2 = ln y2 m2) = true) (hk : b ≠ k) (hp : rN (px y1 m1 d1 y2 m2 30) 360 = p) (hq : rD (px y1 m1 d1 y2 m2 30) 360 = q) :
    Calls Tryz.prog 22 #[.int .i64 a, .int .i64 b, .int .i64 k] w fun e' w' => e' = .returned (.tuple #[.agg #[.int .i64 p, .int .i64 q], .int .i64 0]) ∧ Below w.heap.size w w' := by
  have H := Held.start w
  have b1 := nb_bd _ _ _ h1
  have b2 := nb_bd _ _ _ h2
  rw [ha] at b1
  rw [hb] at b2
  have W1 : Hid (WhyIs_ty a b 0) := Lib.hid (Or.inr (Or.inr ⟨b1, b2, hab, rfl⟩))
  have O1 : Hid (DayIs a y1 m1 d1 0) := Lib.hid (Or.inl ⟨h1, ha, rfl⟩)
  have O2 : Hid (DayIs b y2 m2 d2 0) := Lib.hid (Or.inl ⟨h2, hb, rfl⟩)
  have l1 := ln_le y1 m1
  have l2 := ln_le y2 m2
  obtain ⟨u1, u2, u3, u4, u5, u6⟩ := h1
  obtain ⟨v1, v2, v3, v4, v5, v6⟩ := h2
  have w1 : 0 ≤ d1 ∧ d1 ≤ 31 := by omega
  have w2 : 0 ≤ d2 ∧ d2 ≤ 31 := by omega
  clear l1 l2
  have HP := Lib.hid hp
  have HQ := Lib.hid hq
  clear hp hq
  have L1 : Hid (LastIs a false) := Lib.hid (last_in y1 m1 d1 ⟨u1, u2, u3, u4, u5, u6⟩ ha hl1)
  have L2 : Hid (LastIs b true) := Lib.hid (last_in y2 m2 d2 ⟨v1, v2, v3, v4, v5, v6⟩ hb hl2)
  clear hl1 hl2
  have t3 : (b == k) = false := beq_eq_false_iff_ne.2 hk
  clear ha hb hab u6 v6
  go_enter Tryz.func22, Tryz.ntmps22
  go_wp2_with fail
  replace H := (H.pair (w.heap.size) (.int .i64 0) (.int .i64 0) 29 rfl)
  (with_reducible refine (rwhy_any_ty a b 0 _ W1.out).mono ?_)
  rintro e w1 ⟨rfl, hb⟩
  replace H := H.below hb
  clear hb
  go_wp2_with fail
  (with_reducible refine (rof_any a y1 m1 d1 0 _ O1.out).mono ?_)
  rintro e w2 ⟨rfl, hb⟩
  replace H := H.below hb
  clear hb
  go_wp2_with fail
  replace H := (H.triple (w2.heap.size) (.int .i64 y1) (.int .i64 m1) (.int .i64 d1) 78 rfl)
  (with_reducible refine (rof_any b y2 m2 d2 0 _ O2.out).mono ?_)
  rintro e w3 ⟨rfl, hb⟩
  replace H := H.below hb
  clear hb
  have ca0 := H.cell (w2.heap.size) 0 (.int .i64 y1) (List.Mem.head _)
  have ca1 := H.cell (w2.heap.size) 1 (.int .i64 m1) (List.Mem.tail _ (List.Mem.head _))
  have ca2 := H.cell (w2.heap.size) 2 (.int .i64 d1) (List.Mem.tail _ (List.Mem.tail _ (List.Mem.head _)))
  have la := H.lt (w2.heap.size) 0 (.int .i64 y1) (List.Mem.head _)
  go_wp2_with fail
  clear ca0 ca1 ca2 la
  replace H := (H.triple (w3.heap.size) (.int .i64 y2) (.int .i64 m2) (.int .i64 d2) 78 rfl)
  (with_reducible refine (rlast_any a false _ L1.out).mono ?_)
  rintro e w4 ⟨rfl, hb⟩
  replace H := H.below hb
  clear hb
  have ca0 := H.cell (w2.heap.size) 0 (.int .i64 y1) (List.Mem.tail _ (List.Mem.tail _ (List.Mem.tail _ (List.Mem.tail _ (List.Mem.tail _ (List.Mem.tail _ (List.Mem.head _)))))))
  have ca1 := H.cell (w2.heap.size) 1 (.int .i64 m1) (List.Mem.tail _ (List.Mem.tail _ (List.Mem.tail _ (List.Mem.tail _ (List.Mem.tail _ (List.Mem.tail _ (List.Mem.tail _ (List.Mem.head _))))))))
  have ca2 := H.cell (w2.heap.size) 2 (.int .i64 d1) (List.Mem.tail _ (List.Mem.tail _ (List.Mem.tail _ (List.Mem.tail _ (List.Mem.tail _ (List.Mem.tail _ (List.Mem.tail _ (List.Mem.tail _ (List.Mem.head _)))))))))
  have la := H.lt (w2.heap.size) 0 (.int .i64 y1) (List.Mem.tail _ (List.Mem.tail _ (List.Mem.tail _ (List.Mem.tail _ (List.Mem.tail _ (List.Mem.tail _ (List.Mem.head _)))))))
  have cb0 := H.cell (w3.heap.size) 0 (.int .i64 y2) (List.Mem.head _)
  have cb1 := H.cell (w3.heap.size) 1 (.int .i64 m2) (List.Mem.tail _ (List.Mem.head _))
  have cb2 := H.cell (w3.heap.size) 2 (.int .i64 d2) (List.Mem.tail _ (List.Mem.tail _ (List.Mem.head _)))
  have lb := H.lt (w3.heap.size) 0 (.int .i64 y2) (List.Mem.head _)
  go_wp2_with fail
  clear ca0 ca1 ca2 la cb0 cb1 cb2 lb
  (with_reducible refine (rlast_any b true _ L2.out).mono ?_)
  rintro e w5 ⟨rfl, hb⟩
  replace H := H.below hb
  clear hb
  have ca0 := H.cell (w2.heap.size) 0 (.int .i64 y1) (List.Mem.tail _ (List.Mem.tail _ (List.Mem.tail _ (List.Mem.tail _ (List.Mem.tail _ (List.Mem.tail _ (List.Mem.head _)))))))
  have ca1 := H.cell (w2.heap.size) 1 (.int .i64 m1) (List.Mem.tail _ (List.Mem.tail _ (List.Mem.tail _ (List.Mem.tail _ (List.Mem.tail _ (List.Mem.tail _ (List.Mem.tail _ (List.Mem.head _))))))))
  have ca2 := H.cell (w2.heap.size) 2 (.int .i64 d1) (List.Mem.tail _ (List.Mem.tail _ (List.Mem.tail _ (List.Mem.tail _ (List.Mem.tail _ (List.Mem.tail _ (List.Mem.tail _ (List.Mem.tail _ (List.Mem.head _)))))))))
  have la := H.lt (w2.heap.size) 0 (.int .i64 y1) (List.Mem.tail _ (List.Mem.tail _ (List.Mem.tail _ (List.Mem.tail _ (List.Mem.tail _ (List.Mem.tail _ (List.Mem.head _)))))))
  have cb0 := H.cell (w3.heap.size) 0 (.int .i64 y2) (List.Mem.head _)
  have cb1 := H.cell (w3.heap.size) 1 (.int .i64 m2) (List.Mem.tail _ (List.Mem.head _))
  have cb2 := H.cell (w3.heap.size) 2 (.int .i64 d2) (List.Mem.tail _ (List.Mem.tail _ (List.Mem.head _)))
  have lb := H.lt (w3.heap.size) 0 (.int .i64 y2) (List.Mem.head _)
  go_wp2_with fail
  clear ca0 ca1 ca2 la cb0 cb1 cb2 lb
  (with_reducible refine (rpart_any y1 m1 d1 y2 m2 d2 d1 30 p q _ ⟨u1, u2⟩ ⟨v1, v2⟩ ⟨u3, u4⟩ ⟨v3, v4⟩ (by omega) (by omega) HP.out HQ.out).mono ?_)
  rintro e w6 ⟨rfl, hb⟩
  replace H := H.below hb
  clear hb
  have cz0 := H.cell (w.heap.size) 0 (.int .i64 0) (List.Mem.tail _ (List.Mem.tail _ (List.Mem.tail _ (List.Mem.tail _ (List.Mem.tail _ (List.Mem.tail _ (List.Mem.tail _ (List.Mem.tail _ (List.Mem.tail _ (List.Mem.tail _ (List.Mem.tail _ (List.Mem.tail _ (List.Mem.head _)))))))))))))
  have cz1 := H.cell (w.heap.size) 1 (.int .i64 0) (List.Mem.tail _ (List.Mem.tail _ (List.Mem.tail _ (List.Mem.tail _ (List.Mem.tail _ (List.Mem.tail _ (List.Mem.tail _ (List.Mem.tail _ (List.Mem.tail _ (List.Mem.tail _ (List.Mem.tail _ (List.Mem.tail _ (List.Mem.tail _ (List.Mem.head _))))))))))))))
  have lz := H.lt (w.heap.size) 0 (.int .i64 0) (List.Mem.tail _ (List.Mem.tail _ (List.Mem.tail _ (List.Mem.tail _ (List.Mem.tail _ (List.Mem.tail _ (List.Mem.tail _ (List.Mem.tail _ (List.Mem.tail _ (List.Mem.tail _ (List.Mem.tail _ (List.Mem.tail _ (List.Mem.head _)))))))))))))
  have fz0 := H.frozen (w.heap.size) 0 (List.Mem.tail _ (List.Mem.tail _ (List.Mem.tail _ (List.Mem.tail _ (List.Mem.tail _ (List.Mem.tail _ (List.Mem.tail _ (List.Mem.tail _ (List.Mem.tail _ (List.Mem.tail _ (List.Mem.tail _ (List.Mem.tail _ (List.Mem.tail _ (List.Mem.tail _ (List.Mem.head _)))))))))))))))
  have fz1 := H.frozen (w.heap.size) 1 (List.Mem.tail _ (List.Mem.tail _ (List.Mem.tail _ (List.Mem.tail _ (List.Mem.tail _ (List.Mem.tail _ (List.Mem.tail _ (List.Mem.tail _ (List.Mem.tail _ (List.Mem.tail _ (List.Mem.tail _ (List.Mem.tail _ (List.Mem.tail _ (List.Mem.tail _ (List.Mem.tail _ (List.Mem.head _))))))))))))))))
  have HK := H.old
  clear H
  go_wp2_with fail
  exact bodyPost_ret (v := .tuple #[.agg #[.int .i64 p, .int .i64 q], .int .i64 0]) (by simp [results, Tryz.results22, go_sem, cz0, cz1]) rfl ⟨rfl, (HK.setCell (by simp <;> omega) _).setCell (by simp <;> omega) _⟩

set_option maxHeartbeats 1000000 in
theorem risda_02 (a b y1 m1 d1 y2 m2 d2 p q : Int) (w : World) (h1 : may y1 m1 d1) (ha : nb y1 m1 d1 = a) (h2 : may y2 m2 d2) (hb : nb y2 m2 d2 = b) (hab : a ≤ b) (hl1 : decide (d1 = ln y1 m1) = false) (hl2 : decide (d2 = ln y2 m2) = true) (hm : m2 ≠ 2) (hp : rN (px y1 m1 d1 y2 m2 30) 360 = p) (hq : rD (px y1 m1 d1 y2 m2 30) 360 = q) :
    Calls Tryz.prog 22 #[.int .i64 a, .int .i64 b, .int .i64 b] w fun e' w' => e' = .returned (.tuple #[.agg #[.int .i64 p, .int .i64 q], .int .i64 0]) ∧ Below w.heap.size w w' := by
  have H := Held.start w
  have b1 := nb_bd _ _ _ h1
  have b2 := nb_bd _ _ _ h2
  rw [ha] at b1
  rw [hb] at b2
  have W1 : Hid (WhyIs_ty a b 0) := Lib.hid (Or.inr (Or.inr ⟨b1, b2, hab, rfl⟩))
  have O1 : Hid (DayIs a y1 m1 d1 0) := Lib.hid (Or.inl ⟨h1, ha, rfl⟩)
  have O2 : Hid (DayIs b y2 m2 d2 0) := Lib.hid (Or.inl ⟨h2, hb, rfl⟩)
  have l1 := ln_le y1 m1
  have l2 := ln_le y2 m2
  obtain ⟨u1, u2, u3, u4, u5, u6⟩ := h1
  obtain ⟨v1, v2, v3, v4, v5, v6⟩ := h2
  have w1 : 0 ≤ d1 ∧ d1 ≤ 31 := by omega
  have w2 : 0 ≤ d2 ∧ d2 ≤ 31 := by omega
  clear l1 l2
  have HP := Lib.hid hp
  have HQ := Lib.hid hq
  clear hp hq
  have L1 : Hid (LastIs a false) := Lib.hid (last_in y1 m1 d1 ⟨u1, u2, u3, u4, u5, u6⟩ ha hl1)
  have L2 : Hid (LastIs b true) := Lib.hid (last_in y2 m2 d2 ⟨v1, v2, v3, v4, v5, v6⟩ hb hl2)
  clear hl1 hl2
  have t3 : (m2 == 2) = false := beq_eq_false_iff_ne.2 hm
  clear ha hb hab u6 v6
  go_enter Tryz.func22, Tryz.ntmps22
  go_wp2_with fail
  replace H := (H.pair (w.heap.size) (.int .i64 0) (.int .i64 0) 29 rfl)
  (with_reducible refine (rwhy_any_ty a b 0 _ W1.out).mono ?_)
  rintro e w1 ⟨rfl, hb⟩
  replace H := H.below hb
  clear hb
  go_wp2_with fail
  (with_reducible refine (rof_any a y1 m1 d1 0 _ O1.out).mono ?_)
  rintro e w2 ⟨rfl, hb⟩
  replace H := H.below hb
  clear hb
  go_wp2_with fail
  replace H := (H.triple (w2.heap.size) (.int .i64 y1) (.int .i64 m1) (.int .i64 d1) 78 rfl)
  (with_reducible refine (rof_any b y2 m2 d2 0 _ O2.out).mono ?_)
  rintro e w3 ⟨rfl, hb⟩
  replace H := H.below hb
  clear hb
  have ca0 := H.cell (w2.heap.size) 0 (.int .i64 y1) (List.Mem.head _)
  have ca1 := H.cell (w2.heap.size) 1 (.int .i64 m1) (List.Mem.tail _ (List.Mem.head _))
  have ca2 := H.cell (w2.heap.size) 2 (.int .i64 d1) (List.Mem.tail _ (List.Mem.tail _ (List.Mem.head _)))
  have la := H.lt (w2.heap.size) 0 (.int .i64 y1) (List.Mem.head _)
  go_wp2_with fail
  clear ca0 ca1 ca2 la
  replace H := (H.triple (w3.heap.size) (.int .i64 y2) (.int .i64 m2) (.int .i64 d2) 78 rfl)
  (with_reducible refine (rlast_any a false _ L1.out).mono ?_)
  rintro e w4 ⟨rfl, hb⟩
  replace H := H.below hb
  clear hb
  have ca0 := H.cell (w2.heap.size) 0 (.int .i64 y1) (List.Mem.tail _ (List.Mem.tail _ (List.Mem.tail _ (List.Mem.tail _ (List.Mem.tail _ (List.Mem.tail _ (List.Mem.head _)))))))
  have ca1 := H.cell (w2.heap.size) 1 (.int .i64 m1) (List.Mem.tail _ (List.Mem.tail _ (List.Mem.tail _ (List.Mem.tail _ (List.Mem.tail _ (List.Mem.tail _ (List.Mem.tail _ (List.Mem.head _))))))))
  have ca2 := H.cell (w2.heap.size) 2 (.int .i64 d1) (List.Mem.tail _ (List.Mem.tail _ (List.Mem.tail _ (List.Mem.tail _ (List.Mem.tail _ (List.Mem.tail _ (List.Mem.tail _ (List.Mem.tail _ (List.Mem.head _)))))))))
  have la := H.lt (w2.heap.size) 0 (.int .i64 y1) (List.Mem.tail _ (List.Mem.tail _ (List.Mem.tail _ (List.Mem.tail _ (List.Mem.tail _ (List.Mem.tail _ (List.Mem.head _)))))))
  have cb0 := H.cell (w3.heap.size) 0 (.int .i64 y2) (List.Mem.head _)
  have cb1 := H.cell (w3.heap.size) 1 (.int .i64 m2) (List.Mem.tail _ (List.Mem.head _))
  have cb2 := H.cell (w3.heap.size) 2 (.int .i64 d2) (List.Mem.tail _ (List.Mem.tail _ (List.Mem.head _)))
  have lb := H.lt (w3.heap.size) 0 (.int .i64 y2) (List.Mem.head _)
  go_wp2_with fail
  clear ca0 ca1 ca2 la cb0 cb1 cb2 lb
  (with_reducible refine (rlast_any b true _ L2.out).mono ?_)
  rintro e w5 ⟨rfl, hb⟩
  replace H := H.below hb
  clear hb
  have ca0 := H.cell (w2.heap.size) 0 (.int .i64 y1) (List.Mem.tail _ (List.Mem.tail _ (List.Mem.tail _ (List.Mem.tail _ (List.Mem.tail _ (List.Mem.tail _ (List.Mem.head _)))))))
  have ca1 := H.cell (w2.heap.size) 1 (.int .i64 m1) (List.Mem.tail _ (List.Mem.tail _ (List.Mem.tail _ (List.Mem.tail _ (List.Mem.tail _ (List.Mem.tail _ (List.Mem.tail _ (List.Mem.head _))))))))
  have ca2 := H.cell (w2.heap.size) 2 (.int .i64 d1) (List.Mem.tail _ (List.Mem.tail _ (List.Mem.tail _ (List.Mem.tail _ (List.Mem.tail _ (List.Mem.tail _ (List.Mem.tail _ (List.Mem.tail _ (List.Mem.head _)))))))))
  have la := H.lt (w2.heap.size) 0 (.int .i64 y1) (List.Mem.tail _ (List.Mem.tail _ (List.Mem.tail _ (List.Mem.tail _ (List.Mem.tail _ (List.Mem.tail _ (List.Mem.head _)))))))
  have cb0 := H.cell (w3.heap.size) 0 (.int .i64 y2) (List.Mem.head _)
  have cb1 := H.cell (w3.heap.size) 1 (.int .i64 m2) (List.Mem.tail _ (List.Mem.head _))
  have cb2 := H.cell (w3.heap.size) 2 (.int .i64 d2) (List.Mem.tail _ (List.Mem.tail _ (List.Mem.head _)))
  have lb := H.lt (w3.heap.size) 0 (.int .i64 y2) (List.Mem.head _)
  go_wp2_with fail
  clear ca0 ca1 ca2 la cb0 cb1 cb2 lb
  (with_reducible refine (rpart_any y1 m1 d1 y2 m2 d2 d1 30 p q _ ⟨u1, u2⟩ ⟨v1, v2⟩ ⟨u3, u4⟩ ⟨v3, v4⟩ (by omega) (by omega) HP.out HQ.out).mono ?_)
  rintro e w6 ⟨rfl, hb⟩
  replace H := H.below hb
  clear hb
  have cz0 := H.cell (w.heap.size) 0 (.int .i64 0) (List.Mem.tail _ (List.Mem.tail _ (List.Mem.tail _ (List.Mem.tail _ (List.Mem.tail _ (List.Mem.tail _ (List.Mem.tail _ (List.Mem.tail _ (List.Mem.tail _ (List.Mem.tail _ (List.Mem.tail _ (List.Mem.tail _ (List.Mem.head _)))))))))))))
  have cz1 := H.cell (w.heap.size) 1 (.int .i64 0) (List.Mem.tail _ (List.Mem.tail _ (List.Mem.tail _ (List.Mem.tail _ (List.Mem.tail _ (List.Mem.tail _ (List.Mem.tail _ (List.Mem.tail _ (List.Mem.tail _ (List.Mem.tail _ (List.Mem.tail _ (List.Mem.tail _ (List.Mem.tail _ (List.Mem.head _))))))))))))))
  have lz := H.lt (w.heap.size) 0 (.int .i64 0) (List.Mem.tail _ (List.Mem.tail _ (List.Mem.tail _ (List.Mem.tail _ (List.Mem.tail _ (List.Mem.tail _ (List.Mem.tail _ (List.Mem.tail _ (List.Mem.tail _ (List.Mem.tail _ (List.Mem.tail _ (List.Mem.tail _ (List.Mem.head _)))))))))))))
  have fz0 := H.frozen (w.heap.size) 0 (List.Mem.tail _ (List.Mem.tail _ (List.Mem.tail _ (List.Mem.tail _ (List.Mem.tail _ (List.Mem.tail _ (List.Mem.tail _ (List.Mem.tail _ (List.Mem.tail _ (List.Mem.tail _ (List.Mem.tail _ (List.Mem.tail _ (List.Mem.tail _ (List.Mem.tail _ (List.Mem.head _)))))))))))))))
  have fz1 := H.frozen (w.heap.size) 1 (List.Mem.tail _ (List.Mem.tail _ (List.Mem.tail _ (List.Mem.tail _ (List.Mem.tail _ (List.Mem.tail _ (List.Mem.tail _ (List.Mem.tail _ (List.Mem.tail _ (List.Mem.tail _ (List.Mem.tail _ (List.Mem.tail _ (List.Mem.tail _ (List.Mem.tail _ (List.Mem.tail _ (List.Mem.head _))))))))))))))))
  have HK := H.old
  clear H
  go_wp2_with fail
  exact bodyPost_ret (v := .tuple #[.agg #[.int .i64 p, .int .i64 q], .int .i64 0]) (by simp [results, Tryz.results22, go_sem, cz0, cz1]) rfl ⟨rfl, (HK.setCell (by simp <;> omega) _).setCell (by simp <;> omega) _⟩

set_option maxHeartbeats 1000000 in
theorem risda_03 (a b y1 m1 d1 y2 m2 d2 p q : Int) (w : World) (h1 : may y1 m1 d1) (ha : nb y1 m1 d1 = a) (h2 : may y2 m2 d2) (hb : nb y2 m2 d2 = b) (hab : a ≤ b) (hl1 : decide (d1 = ln y1 m1) = false) (hl2 : decide (d2 = ln y2 m2) = true) (hm : m2 = 2) (hp : rN (px y1 m1 d1 y2 m2 d2) 360 = p) (hq : rD (px y1 m1 d1 y2 m2 d2) 360 = q) :
    Calls Tryz.prog 22 #[.int .i64 a, .int .i64 b, .int .i64 b] w fun e' w' => e' = .returned (.tuple #[.agg #[.int .i64 p, .int .i64 q], .int .i64 0]) ∧ Below w.heap.size w w' := by
  have H := Held.start w
  have b1 := nb_bd _ _ _ h1
  have b2 := nb_bd _ _ _ h2
  rw [ha] at b1
  rw [hb] at b2
  have W1 : Hid (WhyIs_ty a b 0) := Lib.hid (Or.inr (Or.inr ⟨b1, b2, hab, rfl⟩))
  have O1 : Hid (DayIs a y1 m1 d1 0) := Lib.hid (Or.inl ⟨h1, ha, rfl⟩)
  have O2 : Hid (DayIs b y2 m2 d2 0) := Lib.hid (Or.inl ⟨h2, hb, rfl⟩)
  have l1 := ln_le y1 m1
  have l2 := ln_le y2 m2
  obtain ⟨u1, u2, u3, u4, u5, u6⟩ := h1
  obtain ⟨v1, v2, v3, v4, v5, v6⟩ := h2
  have w1 : 0 ≤ d1 ∧ d1 ≤ 31 := by omega
  have w2 : 0 ≤ d2 ∧ d2 ≤ 31 := by omega
  clear l1 l2
  have HP := Lib.hid hp
  have HQ := Lib.hid hq
  clear hp hq
  have L1 : Hid (LastIs a false) := Lib.hid (last_in y1 m1 d1 ⟨u1, u2, u3, u4, u5, u6⟩ ha hl1)
  have L2 : Hid (LastIs b true) := Lib.hid (last_in y2 m2 d2 ⟨v1, v2, v3, v4, v5, v6⟩ hb hl2)
  clear hl1 hl2
  have t3 : (m2 == 2) = true := by simpa using hm
  clear hm
  clear ha hb hab u6 v6
  go_enter Tryz.func22, Tryz.ntmps22
  go_wp2_with fail
  replace H := (H.pair (w.heap.size) (.int .i64 0) (.int .i64 0) 29 rfl)
  (with_reducible refine (rwhy_any_ty a b 0 _ W1.out).mono ?_)
  rintro e w1 ⟨rfl, hb⟩
  replace H := H.below hb
  clear hb
  go_wp2_with fail
  (with_reducible refine (rof_any a y1 m1 d1 0 _ O1.out).mono ?_)
  rintro e w2 ⟨rfl, hb⟩
  replace H := H.below hb
  clear hb
  go_wp2_with fail
  replace H := (H.triple (w2.heap.size) (.int .i64 y1) (.int .i64 m1) (.int .i64 d1) 78 rfl)
  (with_reducible refine (rof_any b y2 m2 d2 0 _ O2.out).mono ?_)
  rintro e w3 ⟨rfl, hb⟩
  replace H := H.below hb
  clear hb
  have ca0 := H.cell (w2.heap.size) 0 (.int .i64 y1) (List.Mem.head _)
  have ca1 := H.cell (w2.heap.size) 1 (.int .i64 m1) (List.Mem.tail _ (List.Mem.head _))
  have ca2 := H.cell (w2.heap.size) 2 (.int .i64 d1) (List.Mem.tail _ (List.Mem.tail _ (List.Mem.head _)))
  have la := H.lt (w2.heap.size) 0 (.int .i64 y1) (List.Mem.head _)
  go_wp2_with fail
  clear ca0 ca1 ca2 la
  replace H := (H.triple (w3.heap.size) (.int .i64 y2) (.int .i64 m2) (.int .i64 d2) 78 rfl)
  (with_reducible refine (rlast_any a false _ L1.out).mono ?_)
  rintro e w4 ⟨rfl, hb⟩
  replace H := H.below hb
  clear hb
  have ca0 := H.cell (w2.heap.size) 0 (.int .i64 y1) (List.Mem.tail _ (List.Mem.tail _ (List.Mem.tail _ (List.Mem.tail _ (List.Mem.tail _ (List.Mem.tail _ (List.Mem.head _)))))))
  have ca1 := H.cell (w2.heap.size) 1 (.int .i64 m1) (List.Mem.tail _ (List.Mem.tail _ (List.Mem.tail _ (List.Mem.tail _ (List.Mem.tail _ (List.Mem.tail _ (List.Mem.tail _ (List.Mem.head _))))))))
  have ca2 := H.cell (w2.heap.size) 2 (.int .i64 d1) (List.Mem.tail _ (List.Mem.tail _ (List.Mem.tail _ (List.Mem.tail _ (List.Mem.tail _ (List.Mem.tail _ (List.Mem.tail _ (List.Mem.tail _ (List.Mem.head _)))))))))
  have la := H.lt (w2.heap.size) 0 (.int .i64 y1) (List.Mem.tail _ (List.Mem.tail _ (List.Mem.tail _ (List.Mem.tail _ (List.Mem.tail _ (List.Mem.tail _ (List.Mem.head _)))))))
  have cb0 := H.cell (w3.heap.size) 0 (.int .i64 y2) (List.Mem.head _)
  have cb1 := H.cell (w3.heap.size) 1 (.int .i64 m2) (List.Mem.tail _ (List.Mem.head _))
  have cb2 := H.cell (w3.heap.size) 2 (.int .i64 d2) (List.Mem.tail _ (List.Mem.tail _ (List.Mem.head _)))
  have lb := H.lt (w3.heap.size) 0 (.int .i64 y2) (List.Mem.head _)
  go_wp2_with fail
  clear ca0 ca1 ca2 la cb0 cb1 cb2 lb
  (with_reducible refine (rlast_any b true _ L2.out).mono ?_)
  rintro e w5 ⟨rfl, hb⟩
  replace H := H.below hb
  clear hb
  have ca0 := H.cell (w2.heap.size) 0 (.int .i64 y1) (List.Mem.tail _ (List.Mem.tail _ (List.Mem.tail _ (List.Mem.tail _ (List.Mem.tail _ (List.Mem.tail _ (List.Mem.head _)))))))
  have ca1 := H.cell (w2.heap.size) 1 (.int .i64 m1) (List.Mem.tail _ (List.Mem.tail _ (List.Mem.tail _ (List.Mem.tail _ (List.Mem.tail _ (List.Mem.tail _ (List.Mem.tail _ (List.Mem.head _))))))))
  have ca2 := H.cell (w2.heap.size) 2 (.int .i64 d1) (List.Mem.tail _ (List.Mem.tail _ (List.Mem.tail _ (List.Mem.tail _ (List.Mem.tail _ (List.Mem.tail _ (List.Mem.tail _ (List.Mem.tail _ (List.Mem.head _)))))))))
  have la := H.lt (w2.heap.size) 0 (.int .i64 y1) (List.Mem.tail _ (List.Mem.tail _ (List.Mem.tail _ (List.Mem.tail _ (List.Mem.tail _ (List.Mem.tail _ (List.Mem.head _)))))))
  have cb0 := H.cell (w3.heap.size) 0 (.int .i64 y2) (List.Mem.head _)
  have cb1 := H.cell (w3.heap.size) 1 (.int .i64 m2) (List.Mem.tail _ (List.Mem.head _))
  have cb2 := H.cell (w3.heap.size) 2 (.int .i64 d2) (List.Mem.tail _ (List.Mem.tail _ (List.Mem.head _)))
  have lb := H.lt (w3.heap.size) 0 (.int .i64 y2) (List.Mem.head _)
  go_wp2_with fail
  clear ca0 ca1 ca2 la cb0 cb1 cb2 lb
  (with_reducible refine (rpart_any y1 m1 d1 y2 m2 d2 d1 d2 p q _ ⟨u1, u2⟩ ⟨v1, v2⟩ ⟨u3, u4⟩ ⟨v3, v4⟩ (by omega) (by omega) HP.out HQ.out).mono ?_)
  rintro e w6 ⟨rfl, hb⟩
  replace H := H.below hb
  clear hb
  have cz0 := H.cell (w.heap.size) 0 (.int .i64 0) (List.Mem.tail _ (List.Mem.tail _ (List.Mem.tail _ (List.Mem.tail _ (List.Mem.tail _ (List.Mem.tail _ (List.Mem.tail _ (List.Mem.tail _ (List.Mem.tail _ (List.Mem.tail _ (List.Mem.tail _ (List.Mem.tail _ (List.Mem.head _)))))))))))))
  have cz1 := H.cell (w.heap.size) 1 (.int .i64 0) (List.Mem.tail _ (List.Mem.tail _ (List.Mem.tail _ (List.Mem.tail _ (List.Mem.tail _ (List.Mem.tail _ (List.Mem.tail _ (List.Mem.tail _ (List.Mem.tail _ (List.Mem.tail _ (List.Mem.tail _ (List.Mem.tail _ (List.Mem.tail _ (List.Mem.head _))))))))))))))
  have lz := H.lt (w.heap.size) 0 (.int .i64 0) (List.Mem.tail _ (List.Mem.tail _ (List.Mem.tail _ (List.Mem.tail _ (List.Mem.tail _ (List.Mem.tail _ (List.Mem.tail _ (List.Mem.tail _ (List.Mem.tail _ (List.Mem.tail _ (List.Mem.tail _ (List.Mem.tail _ (List.Mem.head _)))))))))))))
  have fz0 := H.frozen (w.heap.size) 0 (List.Mem.tail _ (List.Mem.tail _ (List.Mem.tail _ (List.Mem.tail _ (List.Mem.tail _ (List.Mem.tail _ (List.Mem.tail _ (List.Mem.tail _ (List.Mem.tail _ (List.Mem.tail _ (List.Mem.tail _ (List.Mem.tail _ (List.Mem.tail _ (List.Mem.tail _ (List.Mem.head _)))))))))))))))
  have fz1 := H.frozen (w.heap.size) 1 (List.Mem.tail _ (List.Mem.tail _ (List.Mem.tail _ (List.Mem.tail _ (List.Mem.tail _ (List.Mem.tail _ (List.Mem.tail _ (List.Mem.tail _ (List.Mem.tail _ (List.Mem.tail _ (List.Mem.tail _ (List.Mem.tail _ (List.Mem.tail _ (List.Mem.tail _ (List.Mem.tail _ (List.Mem.head _))))))))))))))))
  have HK := H.old
  clear H
  go_wp2_with fail
  exact bodyPost_ret (v := .tuple #[.agg #[.int .i64 p, .int .i64 q], .int .i64 0]) (by simp [results, Tryz.results22, go_sem, cz0, cz1]) rfl ⟨rfl, (HK.setCell (by simp <;> omega) _).setCell (by simp <;> omega) _⟩

set_option maxHeartbeats 1000000 in
theorem risda_10 (a b y1 m1 d1 y2 m2 d2 p q : Int) (k : Int) (w : World) (h1 : may y1 m1 d1) (ha : nb y1 m1 d1 = a) (h2 : may y2 m2 d2) (hb : nb y2 m2 d2 = b) (hab : a ≤ b) (hl1 : decide (d1 = ln y1 m1) = true) (hl2 : decide (d2 = ln y2 m2) = false)  (hp : rN (px y1 m1 30 y2 m2 d2) 360 = p) (hq : rD (px y1 m1 30 y2 m2 d2) 360 = q) :
    Calls Tryz.prog 22 #[.int .i64 a, .int .i64 b, .int .i64 k] w fun e' w' => e' = .returned (.tuple #[.agg #[.int .i64 p, .int .i64 q], .int .i64 0]) ∧ Below w.heap.size w w' := by
  have H := Held.start w
  have b1 := nb_bd _ _ _ h1
  have b2 := nb_bd _ _ _ h2
  rw [ha] at b1
  rw [hb] at b2
  have W1 : Hid (WhyIs_ty a b 0) := Lib.hid (Or.inr (Or.inr ⟨b1, b2, hab, rfl⟩))
  have O1 : Hid (DayIs a y1 m1 d1 0) := Lib.hid (Or.inl ⟨h1, ha, rfl⟩)
  have O2 : Hid (DayIs b y2 m2 d2 0) := Lib.hid (Or.inl ⟨h2, hb, rfl⟩)
  have l1 := ln_le y1 m1
  have l2 := ln_le y2 m2
  obtain ⟨u1, u2, u3, u4, u5, u6⟩ := h1
  obtain ⟨v1, v2, v3, v4, v5, v6⟩ := h2
  have w1 : 0 ≤ d1 ∧ d1 ≤ 31 := by omega
  have w2 : 0 ≤ d2 ∧ d2 ≤ 31 := by omega
  clear l1 l2
  have HP := Lib.hid hp
  have HQ := Lib.hid hq
  clear hp hq
  have L1 : Hid (LastIs a true) := Lib.hid (last_in y1 m1 d1 ⟨u1, u2, u3, u4, u5, u6⟩ ha hl1)
  have L2 : Hid (LastIs b false) := Lib.hid (last_in y2 m2 d2 ⟨v1, v2, v3, v4, v5, v6⟩ hb hl2)
  clear hl1 hl2
  clear ha hb hab u6 v6
  go_enter Tryz.func22, Tryz.ntmps22
  go_wp2_with fail
  replace H := (H.pair (w.heap.size) (.int .i64 0) (.int .i64 0) 29 rfl)
  (with_reducible refine (rwhy_any_ty a b 0 _ W1.out).mono ?_)
  rintro e w1 ⟨rfl, hb⟩
  replace H := H.below hb
  clear hb
  go_wp2_with fail
  (with_reducible refine (rof_any a y1 m1 d1 0 _ O1.out).mono ?_)
  rintro e w2 ⟨rfl, hb⟩
  replace H := H.below hb
  clear hb
  go_wp2_with fail
  replace H := (H.triple (w2.heap.size) (.int .i64 y1) (.int .i64 m1) (.int .i64 d1) 78 rfl)
  (with_reducible refine (rof_any b y2 m2 d2 0 _ O2.out).mono ?_)
  rintro e w3 ⟨rfl, hb⟩
  replace H := H.below hb
  clear hb
  have ca0 := H.cell (w2.heap.size) 0 (.int .i64 y1) (List.Mem.head _)
  have ca1 := H.cell (w2.heap.size) 1 (.int .i64 m1) (List.Mem.tail _ (List.Mem.head _))
  have ca2 := H.cell (w2.heap.size) 2 (.int .i64 d1) (List.Mem.tail _ (List.Mem.tail _ (List.Mem.head _)))
  have la := H.lt (w2.heap.size) 0 (.int .i64 y1) (List.Mem.head _)
  go_wp2_with fail
  clear ca0 ca1 ca2 la
  replace H := (H.triple (w3.heap.size) (.int .i64 y2) (.int .i64 m2) (.int .i64 d2) 78 rfl)
  (with_reducible refine (rlast_any a true _ L1.out).mono ?_)
  rintro e w4 ⟨rfl, hb⟩
  replace H := H.below hb
  clear hb
  have ca0 := H.cell (w2.heap.size) 0 (.int .i64 y1) (List.Mem.tail _ (List.Mem.tail _ (List.Mem.tail _ (List.Mem.tail _ (List.Mem.tail _ (List.Mem.tail _ (List.Mem.head _)))))))
  have ca1 := H.cell (w2.heap.size) 1 (.int .i64 m1) (List.Mem.tail _ (List.Mem.tail _ (List.Mem.tail _ (List.Mem.tail _ (List.Mem.tail _ (List.Mem.tail _ (List.Mem.tail _ (List.Mem.head _))))))))
  have ca2 := H.cell (w2.heap.size) 2 (.int .i64 d1) (List.Mem.tail _ (List.Mem.tail _ (List.Mem.tail _ (List.Mem.tail _ (List.Mem.tail _ (List.Mem.tail _ (List.Mem.tail _ (List.Mem.tail _ (List.Mem.head _)))))))))
  have la := H.lt (w2.heap.size) 0 (.int .i64 y1) (List.Mem.tail _ (List.Mem.tail _ (List.Mem.tail _ (List.Mem.tail _ (List.Mem.tail _ (List.Mem.tail _ (List.Mem.head _)))))))
  have cb0 := H.cell (w3.heap.size) 0 (.int .i64 y2) (List.Mem.head _)
  have cb1 := H.cell (w3.heap.size) 1 (.int .i64 m2) (List.Mem.tail _ (List.Mem.head _))
  have cb2 := H.cell (w3.heap.size) 2 (.int .i64 d2) (List.Mem.tail _ (List.Mem.tail _ (List.Mem.head _)))
  have lb := H.lt (w3.heap.size) 0 (.int .i64 y2) (List.Mem.head _)
  go_wp2_with fail
  clear ca0 ca1 ca2 la cb0 cb1 cb2 lb
  (with_reducible refine (rlast_any b false _ L2.out).mono ?_)
  rintro e w5 ⟨rfl, hb⟩
  replace H := H.below hb
  clear hb
  have ca0 := H.cell (w2.heap.size) 0 (.int .i64 y1) (List.Mem.tail _ (List.Mem.tail _ (List.Mem.tail _ (List.Mem.tail _ (List.Mem.tail _ (List.Mem.tail _ (List.Mem.head _)))))))
  have ca1 := H.cell (w2.heap.size) 1 (.int .i64 m1) (List.Mem.tail _ (List.Mem.tail _ (List.Mem.tail _ (List.Mem.tail _ (List.Mem.tail _ (List.Mem.tail _ (List.Mem.tail _ (List.Mem.head _))))))))
  have ca2 := H.cell (w2.heap.size) 2 (.int .i64 d1) (List.Mem.tail _ (List.Mem.tail _ (List.Mem.tail _ (List.Mem.tail _ (List.Mem.tail _ (List.Mem.tail _ (List.Mem.tail _ (List.Mem.tail _ (List.Mem.head _)))))))))
  have la := H.lt (w2.heap.size) 0 (.int .i64 y1) (List.Mem.tail _ (List.Mem.tail _ (List.Mem.tail _ (List.Mem.tail _ (List.Mem.tail _ (List.Mem.tail _ (List.Mem.head _)))))))
  have cb0 := H.cell (w3.heap.size) 0 (.int .i64 y2) (List.Mem.head _)
  have cb1 := H.cell (w3.heap.size) 1 (.int .i64 m2) (List.Mem.tail _ (List.Mem.head _))
  have cb2 := H.cell (w3.heap.size) 2 (.int .i64 d2) (List.Mem.tail _ (List.Mem.tail _ (List.Mem.head _)))
  have lb := H.lt (w3.heap.size) 0 (.int .i64 y2) (List.Mem.head _)
  go_wp2_with fail
  clear ca0 ca1 ca2 la cb0 cb1 cb2 lb
  (with_reducible refine (rpart_any y1 m1 d1 y2 m2 d2 30 d2 p q _ ⟨u1, u2⟩ ⟨v1, v2⟩ ⟨u3, u4⟩ ⟨v3, v4⟩ (by omega) (by omega) HP.out HQ.out).mono ?_)
  rintro e w6 ⟨rfl, hb⟩
  replace H := H.below hb
  clear hb
  have cz0 := H.cell (w.heap.size) 0 (.int .i64 0) (List.Mem.tail _ (List.Mem.tail _ (List.Mem.tail _ (List.Mem.tail _ (List.Mem.tail _ (List.Mem.tail _ (List.Mem.tail _ (List.Mem.tail _ (List.Mem.tail _ (List.Mem.tail _ (List.Mem.tail _ (List.Mem.tail _ (List.Mem.head _)))))))))))))
  have cz1 := H.cell (w.heap.size) 1 (.int .i64 0) (List.Mem.tail _ (List.Mem.tail _ (List.Mem.tail _ (List.Mem.tail _ (List.Mem.tail _ (List.Mem.tail _ (List.Mem.tail _ (List.Mem.tail _ (List.Mem.tail _ (List.Mem.tail _ (List.Mem.tail _ (List.Mem.tail _ (List.Mem.tail _ (List.Mem.head _))))))))))))))
  have lz := H.lt (w.heap.size) 0 (.int .i64 0) (List.Mem.tail _ (List.Mem.tail _ (List.Mem.tail _ (List.Mem.tail _ (List.Mem.tail _ (List.Mem.tail _ (List.Mem.tail _ (List.Mem.tail _ (List.Mem.tail _ (List.Mem.tail _ (List.Mem.tail _ (List.Mem.tail _ (List.Mem.head _)))))))))))))
  have fz0 := H.frozen (w.heap.size) 0 (List.Mem.tail _ (List.Mem.tail _ (List.Mem.tail _ (List.Mem.tail _ (List.Mem.tail _ (List.Mem.tail _ (List.Mem.tail _ (List.Mem.tail _ (List.Mem.tail _ (List.Mem.tail _ (List.Mem.tail _ (List.Mem.tail _ (List.Mem.tail _ (List.Mem.tail _ (List.Mem.head _)))))))))))))))
  have fz1 := H.frozen (w.heap.size) 1 (List.Mem.tail _ (List.Mem.tail _ (List.Mem.tail _ (List.Mem.tail _ (List.Mem.tail _ (List.Mem.tail _ (List.Mem.tail _ (List.Mem.tail _ (List.Mem.tail _ (List.Mem.tail _ (List.Mem.tail _ (List.Mem.tail _ (List.Mem.tail _ (List.Mem.tail _ (List.Mem.tail _ (List.Mem.head _))))))))))))))))
  have HK := H.old
  clear H
  go_wp2_with fail
  exact bodyPost_ret (v := .tuple #[.agg #[.int .i64 p, .int .i64 q], .int .i64 0]) (by simp [results, Tryz.results22, go_sem, cz0, cz1]) rfl ⟨rfl, (HK.setCell (by simp <;> omega) _).setCell (by simp <;> omega) _⟩

set_option maxHeartbeats 1000000 in
theorem risda_11 (a b y1 m1 d1 y2 m2 d2 p q : Int) (k : Int) (w : World) (h1 : may y1 m1 d1) (ha : nb y1 m1 d1 = a) (h2 : may y2 m2 d2) (hb : nb y2 m2 d2 = b) (hab : a ≤ b) (hl1 : decide (d1 = ln y1 m1) = true) (hl2 : decide (d2 = ln y2 m2) = true) (hk : b ≠ k) (hp : rN (px y1 m1 30 y2 m2 30) 360 = p) (hq : rD (px y1 m1 30 y2 m2 30) 360 = q) :
    Calls Tryz.prog 22 #[.int .i64 a, .int .i64 b, .int .i64 k] w fun e' w' => e' = .returned (.tuple #[.agg #[.int .i64 p, .int .i64 q], .int .i64 0]) ∧ Below w.heap.size w w' := by
  have H := Held.start w
  have b1 := nb_bd _ _ _ h1
  have b2 := nb_bd _ _ _ h2
  rw [ha] at b1
  rw [hb] at b2
  have W1 : Hid (WhyIs_ty a b 0) := Lib.hid (Or.inr (Or.inr ⟨b1, b2, hab, rfl⟩))
  have O1 : Hid (DayIs a y1 m1 d1 0) := Lib.hid (Or.inl ⟨h1, ha, rfl⟩)
  have O2 : Hid (DayIs b y2 m2 d2 0) := Lib.hid (Or.inl ⟨h2, hb, rfl⟩)
  have l1 := ln_le y1 m1
  have l2 := ln_le y2 m2
  obtain ⟨u1, u2, u3, u4, u5, u6⟩ := h1
  obtain ⟨v1, v2, v3, v4, v5, v6⟩ := h2
  have w1 : 0 ≤ d1 ∧ d1 ≤ 31 := by omega
  have w2 : 0 ≤ d2 ∧ d2 ≤ 31 := by omega
  clear l1 l2
  have HP := Lib.hid hp
  have HQ := Lib.hid hq
  clear hp hq
  have L1 : Hid (LastIs a true) := Lib.hid (last_in y1 m1 d1 ⟨u1, u2, u3, u4, u5, u6⟩ ha hl1)
  have L2 : Hid (LastIs b true) := Lib.hid (last_in y2 m2 d2 ⟨v1, v2, v3, v4, v5, v6⟩ hb hl2)
  clear hl1 hl2
  have t3 : (b == k) = false := beq_eq_false_iff_ne.2 hk
  clear ha hb hab u6 v6
  go_enter Tryz.func22, Tryz.ntmps22
  go_wp2_with fail
  replace H := (H.pair (w.heap.size) (.int .i64 0) (.int .i64 0) 29 rfl)
  (with_reducible refine (rwhy_any_ty a b 0 _ W1.out).mono ?_)
  rintro e w1 ⟨rfl, hb⟩
  replace H := H.below hb
  clear hb
  go_wp2_with fail
  (with_reducible refine (rof_any a y1 m1 d1 0 _ O1.out).mono ?_)
  rintro e w2 ⟨rfl, hb⟩
  replace H := H.below hb
  clear hb
  go_wp2_with fail
  replace H := (H.triple (w2.heap.size) (.int .i64 y1) (.int .i64 m1) (.int .i64 d1) 78 rfl)
  (with_reducible refine (rof_any b y2 m2 d2 0 _ O2.out).mono ?_)
  rintro e w3 ⟨rfl, hb⟩
  replace H := H.below hb
  clear hb
  have ca0 := H.cell (w2.heap.size) 0 (.int .i64 y1) (List.Mem.head _)
  have ca1 := H.cell (w2.heap.size) 1 (.int .i64 m1) (List.Mem.tail _ (List.Mem.head _))
  have ca2 := H.cell (w2.heap.size) 2 (.int .i64 d1) (List.Mem.tail _ (List.Mem.tail _ (List.Mem.head _)))
  have la := H.lt (w2.heap.size) 0 (.int .i64 y1) (List.Mem.head _)
  go_wp2_with fail
  clear ca0 ca1 ca2 la
  replace H := (H.triple (w3.heap.size) (.int .i64 y2) (.int .i64 m2) (.int .i64 d2) 78 rfl)
  (with_reducible refine (rlast_any a true _ L1.out).mono ?_)
  rintro e w4 ⟨rfl, hb⟩
  replace H := H.below hb
  clear hb
  have ca0 := H.cell (w2.heap.size) 0 (.int .i64 y1) (List.Mem.tail _ (List.Mem.tail _ (List.Mem.tail _ (List.Mem.tail _ (List.Mem.tail _ (List.Mem.tail _ (List.Mem.head _)))))))
  have ca1 := H.cell (w2.heap.size) 1 (.int .i64 m1) (List.Mem.tail _ (List.Mem.tail _ (List.Mem.tail _ (List.Mem.tail _ (List.Mem.tail _ (List.Mem.tail _ (List.Mem.tail _ (List.Mem.head _))))))))
  have ca2 := H.cell (w2.heap.size) 2 (.int .i64 d1) (List.Mem.tail _ (List.Mem.tail _ (List.Mem.tail _ (List.Mem.tail _ (List.Mem.tail _ (List.Mem.tail _ (List.Mem.tail _ (List.Mem.tail _ (List.Mem.head _)))))))))
  have la := H.lt (w2.heap.size) 0 (.int .i64 y1) (List.Mem.tail _ (List.Mem.tail _ (List.Mem.tail _ (List.Mem.tail _ (List.Mem.tail _ (List.Mem.tail _ (List.Mem.head _)))))))
  have cb0 := H.cell (w3.heap.size) 0 (.int .i64 y2) (List.Mem.head _)
  have cb1 := H.cell (w3.heap.size) 1 (.int .i64 m2) (List.Mem.tail _ (List.Mem.head _))
  have cb2 := H.cell (w3.heap.size) 2 (.int .i64 d2) (List.Mem.tail _ (List.Mem.tail _ (List.Mem.head _)))
  have lb := H.lt (w3.heap.size) 0 (.int .i64 y2) (List.Mem.head _)
  go_wp2_with fail
  clear ca0 ca1 ca2 la cb0 cb1 cb2 lb
  (with_reducible refine (rlast_any b true _ L2.out).mono ?_)
  rintro e w5 ⟨rfl, hb⟩
  replace H := H.below hb
  clear hb
  have ca0 := H.cell (w2.heap.size) 0 (.int .i64 y1) (List.Mem.tail _ (List.Mem.tail _ (List.Mem.tail _ (List.Mem.tail _ (List.Mem.tail _ (List.Mem.tail _ (List.Mem.head _)))))))
  have ca1 := H.cell (w2.heap.size) 1 (.int .i64 m1) (List.Mem.tail _ (List.Mem.tail _ (List.Mem.tail _ (List.Mem.tail _ (List.Mem.tail _ (List.Mem.tail _ (List.Mem.tail _ (List.Mem.head _))))))))
  have ca2 := H.cell (w2.heap.size) 2 (.int .i64 d1) (List.Mem.tail _ (List.Mem.tail _ (List.Mem.tail _ (List.Mem.tail _ (List.Mem.tail _ (List.Mem.tail _ (List.Mem.tail _ (List.Mem.tail _ (List.Mem.head _)))))))))
  have la := H.lt (w2.heap.size) 0 (.int .i64 y1) (List.Mem.tail _ (List.Mem.tail _ (List.Mem.tail _ (List.Mem.tail _ (List.Mem.tail _ (List.Mem.tail _ (List.Mem.head _)))))))
  have cb0 := H.cell (w3.heap.size) 0 (.int .i64 y2) (List.Mem.head _)
  have cb1 := H.cell (w3.heap.size) 1 (.int .i64 m2) (List.Mem.tail _ (List.Mem.head _))
  have cb2 := H.cell (w3.heap.size) 2 (.int .i64 d2) (List.Mem.tail _ (List.Mem.tail _ (List.Mem.head _)))
  have lb := H.lt (w3.heap.size) 0 (.int .i64 y2) (List.Mem.head _)
  go_wp2_with fail
  clear ca0 ca1 ca2 la cb0 cb1 cb2 lb
  (with_reducible refine (rpart_any y1 m1 d1 y2 m2 d2 30 30 p q _ ⟨u1, u2⟩ ⟨v1, v2⟩ ⟨u3, u4⟩ ⟨v3, v4⟩ (by omega) (by omega) HP.out HQ.out).mono ?_)
  rintro e w6 ⟨rfl, hb⟩
  replace H := H.below hb
  clear hb
  have cz0 := H.cell (w.heap.size) 0 (.int .i64 0) (List.Mem.tail _ (List.Mem.tail _ (List.Mem.tail _ (List.Mem.tail _ (List.Mem.tail _ (List.Mem.tail _ (List.Mem.tail _ (List.Mem.tail _ (List.Mem.tail _ (List.Mem.tail _ (List.Mem.tail _ (List.Mem.tail _ (List.Mem.head _)))))))))))))
  have cz1 := H.cell (w.heap.size) 1 (.int .i64 0) (List.Mem.tail _ (List.Mem.tail _ (List.Mem.tail _ (List.Mem.tail _ (List.Mem.tail _ (List.Mem.tail _ (List.Mem.tail _ (List.Mem.tail _ (List.Mem.tail _ (List.Mem.tail _ (List.Mem.tail _ (List.Mem.tail _ (List.Mem.tail _ (List.Mem.head _))))))))))))))
  have lz := H.lt (w.heap.size) 0 (.int .i64 0) (List.Mem.tail _ (List.Mem.tail _ (List.Mem.tail _ (List.Mem.tail _ (List.Mem.tail _ (List.Mem.tail _ (List.Mem.tail _ (List.Mem.tail _ (List.Mem.tail _ (List.Mem.tail _ (List.Mem.tail _ (List.Mem.tail _ (List.Mem.head _)))))))))))))
  have fz0 := H.frozen (w.heap.size) 0 (List.Mem.tail _ (List.Mem.tail _ (List.Mem.tail _ (List.Mem.tail _ (List.Mem.tail _ (List.Mem.tail _ (List.Mem.tail _ (List.Mem.tail _ (List.Mem.tail _ (List.Mem.tail _ (List.Mem.tail _ (List.Mem.tail _ (List.Mem.tail _ (List.Mem.tail _ (List.Mem.head _)))))))))))))))
  have fz1 := H.frozen (w.heap.size) 1 (List.Mem.tail _ (List.Mem.tail _ (List.Mem.tail _ (List.Mem.tail _ (List.Mem.tail _ (List.Mem.tail _ (List.Mem.tail _ (List.Mem.tail _ (List.Mem.tail _ (List.Mem.tail _ (List.Mem.tail _ (List.Mem.tail _ (List.Mem.tail _ (List.Mem.tail _ (List.Mem.tail _ (List.Mem.head _))))))))))))))))
  have HK := H.old
  clear H
  go_wp2_with fail
  exact bodyPost_ret (v := .tuple #[.agg #[.int .i64 p, .int .i64 q], .int .i64 0]) (by simp [results, Tryz.results22, go_sem, cz0, cz1]) rfl ⟨rfl, (HK.setCell (by simp <;> omega) _).setCell (by simp <;> omega) _⟩

set_option maxHeartbeats 1000000 in
theorem risda_12 (a b y1 m1 d1 y2 m2 d2 p q : Int) (w : World) (h1 : may y1 m1 d1) (ha : nb y1 m1 d1 = a) (h2 : may y2 m2 d2) (hb : nb y2 m2 d2 = b) (hab : a ≤ b) (hl1 : decide (d1 = ln y1 m1) = true) (hl2 : decide (d2 = ln y2 m2) = true) (hm : m2 ≠ 2) (hp : rN (px y1 m1 30 y2 m2 30) 360 = p) (hq : rD (px y1 m1 30 y2 m2 30) 360 = q) :
    Calls Tryz.prog 22 #[.int .i64 a, .int .i64 b, .int .i64 b] w fun e' w' => e' = .returned (.tuple #[.agg #[.int .i64 p, .int .i64 q], .int .i64 0]) ∧ Below w.heap.size w w' := by
  have H := Held.start w
  have b1 := nb_bd _ _ _ h1
  have b2 := nb_bd _ _ _ h2
  rw [ha] at b1
  rw [hb] at b2
  have W1 : Hid (WhyIs_ty a b 0) := Lib.hid (Or.inr (Or.inr ⟨b1, b2, hab, rfl⟩))
  have O1 : Hid (DayIs a y1 m1 d1 0) := Lib.hid (Or.inl ⟨h1, ha, rfl⟩)
  have O2 : Hid (DayIs b y2 m2 d2 0) := Lib.hid (Or.inl ⟨h2, hb, rfl⟩)
  have l1 := ln_le y1 m1
  have l2 := ln_le y2 m2
  obtain ⟨u1, u2, u3, u4, u5, u6⟩ := h1
  obtain ⟨v1, v2, v3, v4, v5, v6⟩ := h2
  have w1 : 0 ≤ d1 ∧ d1 ≤ 31 := by omega
  have w2 : 0 ≤ d2 ∧ d2 ≤ 31 := by omega
  clear l1 l2
  have HP := Lib.hid hp
  have HQ := Lib.hid hq
  clear hp hq
  have L1 : Hid (LastIs a true) := Lib.hid (last_in y1 m1 d1 ⟨u1, u2, u3, u4, u5, u6⟩ ha hl1)
  have L2 : Hid (LastIs b true) := Lib.hid (last_in y2 m2 d2 ⟨v1, v2, v3, v4, v5, v6⟩ hb hl2)
  clear hl1 hl2
  have t3 : (m2 == 2) = false := beq_eq_false_iff_ne.2 hm
  clear ha hb hab u6 v6
  go_enter Tryz.func22, Tryz.ntmps22
  go_wp2_with fail
  replace H := (H.pair (w.heap.size) (.int .i64 0) (.int .i64 0) 29 rfl)
  (with_reducible refine (rwhy_any_ty a b 0 _ W1.out).mono ?_)
  rintro e w1 ⟨rfl, hb⟩
  replace H := H.below hb
  clear hb
  go_wp2_with fail
  (with_reducible refine (rof_any a y1 m1 d1 0 _ O1.out).mono ?_)
  rintro e w2 ⟨rfl, hb⟩
  replace H := H.below hb
  clear hb
  go_wp2_with fail
  replace H := (H.triple (w2.heap.size) (.int .i64 y1) (.int .i64 m1) (.int .i64 d1) 78 rfl)
  (with_reducible refine (rof_any b y2 m2 d2 0 _ O2.out).mono ?_)
  rintro e w3 ⟨rfl, hb⟩
  replace H := H.below hb
  clear hb
  have ca0 := H.cell (w2.heap.size) 0 (.int .i64 y1) (List.Mem.head _)
  have ca1 := H.cell (w2.heap.size) 1 (.int .i64 m1) (List.Mem.tail _ (List.Mem.head _))
  have ca2 := H.cell (w2.heap.size) 2 (.int .i64 d1) (List.Mem.tail _ (List.Mem.tail _ (List.Mem.head _)))
  have la := H.lt (w2.heap.size) 0 (.int .i64 y1) (List.Mem.head _)
  go_wp2_with fail
  clear ca0 ca1 ca2 la
  replace H := (H.triple (w3.heap.size) (.int .i64 y2) (.int .i64 m2) (.int .i64 d2) 78 rfl)
  (with_reducible refine (rlast_any a true _ L1.out).mono ?_)
  rintro e w4 ⟨rfl, hb⟩
  replace H := H.below hb
  clear hb
  have ca0 := H.cell (w2.heap.size) 0 (.int .i64 y1) (List.Mem.tail _ (List.Mem.tail _ (List.Mem.tail _ (List.Mem.tail _ (List.Mem.tail _ (List.Mem.tail _ (List.Mem.head _)))))))
  have ca1 := H.cell (w2.heap.size) 1 (.int .i64 m1) (List.Mem.tail _ (List.Mem.tail _ (List.Mem.tail _ (List.Mem.tail _ (List.Mem.tail _ (List.Mem.tail _ (List.Mem.tail _ (List.Mem.head _))))))))
  have ca2 := H.cell (w2.heap.size) 2 (.int .i64 d1) (List.Mem.tail _ (List.Mem.tail _ (List.Mem.tail _ (List.Mem.tail _ (List.Mem.tail _ (List.Mem.tail _ (List.Mem.tail _ (List.Mem.tail _ (List.Mem.head _)))))))))
  have la := H.lt (w2.heap.size) 0 (.int .i64 y1) (List.Mem.tail _ (List.Mem.tail _ (List.Mem.tail _ (List.Mem.tail _ (List.Mem.tail _ (List.Mem.tail _ (List.Mem.head _)))))))
  have cb0 := H.cell (w3.heap.size) 0 (.int .i64 y2) (List.Mem.head _)
  have cb1 := H.cell (w3.heap.size) 1 (.int .i64 m2) (List.Mem.tail _ (List.Mem.head _))
  have cb2 := H.cell (w3.heap.size) 2 (.int .i64 d2) (List.Mem.tail _ (List.Mem.tail _ (List.Mem.head _)))
  have lb := H.lt (w3.heap.size) 0 (.int .i64 y2) (List.Mem.head _)
  go_wp2_with fail
  clear ca0 ca1 ca2 la cb0 cb1 cb2 lb
  (with_reducible refine (rlast_any b true _ L2.out).mono ?_)
  rintro e w5 ⟨rfl, hb⟩
  replace H := H.below hb
  clear hb
  have ca0 := H.cell (w2.heap.size) 0 (.int .i64 y1) (List.Mem.tail _ (List.Mem.tail _ (List.Mem.tail _ (List.Mem.tail _ (List.Mem.tail _ (List.Mem.tail _ (List.Mem.head _)))))))
  have ca1 := H.cell (w2.heap.size) 1 (.int .i64 m1) (List.Mem.tail _ (List.Mem.tail _ (List.Mem.tail _ (List.Mem.tail _ (List.Mem.tail _ (List.Mem.tail _ (List.Mem.tail _ (List.Mem.head _))))))))
  have ca2 := H.cell (w2.heap.size) 2 (.int .i64 d1) (List.Mem.tail _ (List.Mem.tail _ (List.Mem.tail _ (List.Mem.tail _ (List.Mem.tail _ (List.Mem.tail _ (List.Mem.tail _ (List.Mem.tail _ (List.Mem.head _)))))))))
  have la := H.lt (w2.heap.size) 0 (.int .i64 y1) (List.Mem.tail _ (List.Mem.tail _ (List.Mem.tail _ (List.Mem.tail _ (List.Mem.tail _ (List.Mem.tail _ (List.Mem.head _)))))))
  have cb0 := H.cell (w3.heap.size) 0 (.int .i64 y2) (List.Mem.head _)
  have cb1 := H.cell (w3.heap.size) 1 (.int .i64 m2) (List.Mem.tail _ (List.Mem.head _))
  have cb2 := H.cell (w3.heap.size) 2 (.int .i64 d2) (List.Mem.tail _ (List.Mem.tail _ (List.Mem.head _)))
  have lb := H.lt (w3.heap.size) 0 (.int .i64 y2) (List.Mem.head _)
  go_wp2_with fail
  clear ca0 ca1 ca2 la cb0 cb1 cb2 lb
  (with_reducible refine (rpart_any y1 m1 d1 y2 m2 d2 30 30 p q _ ⟨u1, u2⟩ ⟨v1, v2⟩ ⟨u3, u4⟩ ⟨v3, v4⟩ (by omega) (by omega) HP.out HQ.out).mono ?_)
  rintro e w6 ⟨rfl, hb⟩
  replace H := H.below hb
  clear hb
  have cz0 := H.cell (w.heap.size) 0 (.int .i64 0) (List.Mem.tail _ (List.Mem.tail _ (List.Mem.tail _ (List.Mem.tail _ (List.Mem.tail _ (List.Mem.tail _ (List.Mem.tail _ (List.Mem.tail _ (List.Mem.tail _ (List.Mem.tail _ (List.Mem.tail _ (List.Mem.tail _ (List.Mem.head _)))))))))))))
  have cz1 := H.cell (w.heap.size) 1 (.int .i64 0) (List.Mem.tail _ (List.Mem.tail _ (List.Mem.tail _ (List.Mem.tail _ (List.Mem.tail _ (List.Mem.tail _ (List.Mem.tail _ (List.Mem.tail _ (List.Mem.tail _ (List.Mem.tail _ (List.Mem.tail _ (List.Mem.tail _ (List.Mem.tail _ (List.Mem.head _))))))))))))))
  have lz := H.lt (w.heap.size) 0 (.int .i64 0) (List.Mem.tail _ (List.Mem.tail _ (List.Mem.tail _ (List.Mem.tail _ (List.Mem.tail _ (List.Mem.tail _ (List.Mem.tail _ (List.Mem.tail _ (List.Mem.tail _ (List.Mem.tail _ (List.Mem.tail _ (List.Mem.tail _ (List.Mem.head _)))))))))))))
  have fz0 := H.frozen (w.heap.size) 0 (List.Mem.tail _ (List.Mem.tail _ (List.Mem.tail _ (List.Mem.tail _ (List.Mem.tail _ (List.Mem.tail _ (List.Mem.tail _ (List.Mem.tail _ (List.Mem.tail _ (List.Mem.tail _ (List.Mem.tail _ (List.Mem.tail _ (List.Mem.tail _ (List.Mem.tail _ (List.Mem.head _)))))))))))))))
  have fz1 := H.frozen (w.heap.size) 1 (List.Mem.tail _ (List.Mem.tail _ (List.Mem.tail _ (List.Mem.tail _ (List.Mem.tail _ (List.Mem.tail _ (List.Mem.tail _ (List.Mem.tail _ (List.Mem.tail _ (List.Mem.tail _ (List.Mem.tail _ (List.Mem.tail _ (List.Mem.tail _ (List.Mem.tail _ (List.Mem.tail _ (List.Mem.head _))))))))))))))))
  have HK := H.old
  clear H
  go_wp2_with fail
  exact bodyPost_ret (v := .tuple #[.agg #[.int .i64 p, .int .i64 q], .int .i64 0]) (by simp [results, Tryz.results22, go_sem, cz0, cz1]) rfl ⟨rfl, (HK.setCell (by simp <;> omega) _).setCell (by simp <;> omega) _⟩

set_option maxHeartbeats 1000000 in
theorem risda_13 (a b y1 m1 d1 y2 m2 d2 p q : Int) (w : World) (h1 : may y1 m1 d1) (ha : nb y1 m1 d1 = a) (h2 : may y2 m2 d2) (hb : nb y2 m2 d2 = b) (hab : a ≤ b) (hl1 : decide (d1 = ln y1 m1) = true) (hl2 : decide (d2 = ln y2 m2) = true) (hm : m2 = 2) (hp : rN (px y1 m1 30 y2 m2 d2) 360 = p) (hq : rD (px y1 m1 30 y2 m2 d2) 360 = q) :
    Calls Tryz.prog 22 #[.int .i64 a, .int .i64 b, .int .i64 b] w fun e' w' => e' = .returned (.tuple #[.agg #[.int .i64 p, .int .i64 q], .int .i64 0]) ∧ Below w.heap.size w w' := by
  have H := Held.start w
  have b1 := nb_bd _ _ _ h1
  have b2 := nb_bd _ _ _ h2
  rw [ha] at b1
  rw [hb] at b2
  have W1 : Hid (WhyIs_ty a b 0) := Lib.hid (Or.inr (Or.inr ⟨b1, b2, hab, rfl⟩))
  have O1 : Hid (DayIs a y1 m1 d1 0) := Lib.hid (Or.inl ⟨h1, ha, rfl⟩)
  have O2 : Hid (DayIs b y2 m2 d2 0) := Lib.hid (Or.inl ⟨h2, hb, rfl⟩)
  have l1 := ln_le y1 m1
  have l2 := ln_le y2 m2
  obtain ⟨u1, u2, u3, u4, u5, u6⟩ := h1
  obtain ⟨v1, v2, v3, v4, v5, v6⟩ := h2
  have w1 : 0 ≤ d1 ∧ d1 ≤ 31 := by omega
  have w2 : 0 ≤ d2 ∧ d2 ≤ 31 := by omega
  clear l1 l2
  have HP := Lib.hid hp
  have HQ := Lib.hid hq
  clear hp hq
  have L1 : Hid (LastIs a true) := Lib.hid (last_in y1 m1 d1 ⟨u1, u2, u3, u4, u5, u6⟩ ha hl1)
  have L2 : Hid (LastIs b true) := Lib.hid (last_in y2 m2 d2 ⟨v1, v2, v3, v4, v5, v6⟩ hb hl2)
  clear hl1 hl2
  have t3 : (m2 == 2) = true := by simpa using hm
  clear hm
  clear ha hb hab u6 v6
  go_enter Tryz.func22, Tryz.ntmps22
  go_wp2_with fail
  replace H := (H.pair (w.heap.size) (.int .i64 0) (.int .i64 0) 29 rfl)
  (with_reducible refine (rwhy_any_ty a b 0 _ W1.out).mono ?_)
  rintro e w1 ⟨rfl, hb⟩
  replace H := H.below hb
  clear hb
  go_wp2_with fail
  (with_reducible refine (rof_any a y1 m1 d1 0 _ O1.out).mono ?_)
  rintro e w2 ⟨rfl, hb⟩
  replace H := H.below hb
  clear hb
  go_wp2_with fail
  replace H := (H.triple (w2.heap.size) (.int .i64 y1) (.int .i64 m1) (.int .i64 d1) 78 rfl)
  (with_reducible refine (rof_any b y2 m2 d2 0 _ O2.out).mono ?_)
  rintro e w3 ⟨rfl, hb⟩
  replace H := H.below hb
  clear hb
  have ca0 := H.cell (w2.heap.size) 0 (.int .i64 y1) (List.Mem.head _)
  have ca1 := H.cell (w2.heap.size) 1 (.int .i64 m1) (List.Mem.tail _ (List.Mem.head _))
  have ca2 := H.cell (w2.heap.size) 2 (.int .i64 d1) (List.Mem.tail _ (List.Mem.tail _ (List.Mem.head _)))
  have la := H.lt (w2.heap.size) 0 (.int .i64 y1) (List.Mem.head _)
  go_wp2_with fail
  clear ca0 ca1 ca2 la
  replace H := (H.triple (w3.heap.size) (.int .i64 y2) (.int .i64 m2) (.int .i64 d2) 78 rfl)
  (with_reducible refine (rlast_any a true _ L1.out).mono ?_)
  rintro e w4 ⟨rfl, hb⟩
  replace H := H.below hb
  clear hb
  have ca0 := H.cell (w2.heap.size) 0 (.int .i64 y1) (List.Mem.tail _ (List.Mem.tail _ (List.Mem.tail _ (List.Mem.tail _ (List.Mem.tail _ (List.Mem.tail _ (List.Mem.head _)))))))
  have ca1 := H.cell (w2.heap.size) 1 (.int .i64 m1) (List.Mem.tail _ (List.Mem.tail _ (List.Mem.tail _ (List.Mem.tail _ (List.Mem.tail _ (List.Mem.tail _ (List.Mem.tail _ (List.Mem.head _))))))))
  have ca2 := H.cell (w2.heap.size) 2 (.int .i64 d1) (List.Mem.tail _ (List.Mem.tail _ (List.Mem.tail _ (List.Mem.tail _ (List.Mem.tail _ (List.Mem.tail _ (List.Mem.tail _ (List.Mem.tail _ (List.Mem.head _)))))))))
  have la := H.lt (w2.heap.size) 0 (.int .i64 y1) (List.Mem.tail _ (List.Mem.tail _ (List.Mem.tail _ (List.Mem.tail _ (List.Mem.tail _ (List.Mem.tail _ (List.Mem.head _)))))))
  have cb0 := H.cell (w3.heap.size) 0 (.int .i64 y2) (List.Mem.head _)
  have cb1 := H.cell (w3.heap.size) 1 (.int .i64 m2) (List.Mem.tail _ (List.Mem.head _))
  have cb2 := H.cell (w3.heap.size) 2 (.int .i64 d2) (List.Mem.tail _ (List.Mem.tail _ (List.Mem.head _)))
  have lb := H.lt (w3.heap.size) 0 (.int .i64 y2) (List.Mem.head _)
  go_wp2_with fail
  clear ca0 ca1 ca2 la cb0 cb1 cb2 lb
  (with_reducible refine (rlast_any b true _ L2.out).mono ?_)
  rintro e w5 ⟨rfl, hb⟩
  replace H := H.below hb
  clear hb
  have ca0 := H.cell (w2.heap.size) 0 (.int .i64 y1) (List.Mem.tail _ (List.Mem.tail _ (List.Mem.tail _ (List.Mem.tail _ (List.Mem.tail _ (List.Mem.tail _ (List.Mem.head _)))))))
  have ca1 := H.cell (w2.heap.size) 1 (.int .i64 m1) (List.Mem.tail _ (List.Mem.tail _ (List.Mem.tail _ (List.Mem.tail _ (List.Mem.tail _ (List.Mem.tail _ (List.Mem.tail _ (List.Mem.head _))))))))
  have ca2 := H.cell (w2.heap.size) 2 (.int .i64 d1) (List.Mem.tail _ (List.Mem.tail _ (List.Mem.tail _ (List.Mem.tail _ (List.Mem.tail _ (List.Mem.tail _ (List.Mem.tail _ (List.Mem.tail _ (List.Mem.head _)))))))))
  have la := H.lt (w2.heap.size) 0 (.int .i64 y1) (List.Mem.tail _ (List.Mem.tail _ (List.Mem.tail _ (List.Mem.tail _ (List.Mem.tail _ (List.Mem.tail _ (List.Mem.head _)))))))
  have cb0 := H.cell (w3.heap.size) 0 (.int .i64 y2) (List.Mem.head _)
  have cb1 := H.cell (w3.heap.size) 1 (.int .i64 m2) (List.Mem.tail _ (List.Mem.head _))
  have cb2 := H.cell (w3.heap.size) 2 (.int .i64 d2) (List.Mem.tail _ (List.Mem.tail _ (List.Mem.head _)))
  have lb := H.lt (w3.heap.size) 0 (.int .i64 y2) (List.Mem.head _)
  go_wp2_with fail
  clear ca0 ca1 ca2 la cb0 cb1 cb2 lb
  (with_reducible refine (rpart_any y1 m1 d1 y2 m2 d2 30 d2 p q _ ⟨u1, u2⟩ ⟨v1, v2⟩ ⟨u3, u4⟩ ⟨v3, v4⟩ (by omega) (by omega) HP.out HQ.out).mono ?_)
  rintro e w6 ⟨rfl, hb⟩
  replace H := H.below hb
  clear hb
  have cz0 := H.cell (w.heap.size) 0 (.int .i64 0) (List.Mem.tail _ (List.Mem.tail _ (List.Mem.tail _ (List.Mem.tail _ (List.Mem.tail _ (List.Mem.tail _ (List.Mem.tail _ (List.Mem.tail _ (List.Mem.tail _ (List.Mem.tail _ (List.Mem.tail _ (List.Mem.tail _ (List.Mem.head _)))))))))))))
  have cz1 := H.cell (w.heap.size) 1 (.int .i64 0) (List.Mem.tail _ (List.Mem.tail _ (List.Mem.tail _ (List.Mem.tail _ (List.Mem.tail _ (List.Mem.tail _ (List.Mem.tail _ (List.Mem.tail _ (List.Mem.tail _ (List.Mem.tail _ (List.Mem.tail _ (List.Mem.tail _ (List.Mem.tail _ (List.Mem.head _))))))))))))))
  have lz := H.lt (w.heap.size) 0 (.int .i64 0) (List.Mem.tail _ (List.Mem.tail _ (List.Mem.tail _ (List.Mem.tail _ (List.Mem.tail _ (List.Mem.tail _ (List.Mem.tail _ (List.Mem.tail _ (List.Mem.tail _ (List.Mem.tail _ (List.Mem.tail _ (List.Mem.tail _ (List.Mem.head _)))))))))))))
  have fz0 := H.frozen (w.heap.size) 0 (List.Mem.tail _ (List.Mem.tail _ (List.Mem.tail _ (List.Mem.tail _ (List.Mem.tail _ (List.Mem.tail _ (List.Mem.tail _ (List.Mem.tail _ (List.Mem.tail _ (List.Mem.tail _ (List.Mem.tail _ (List.Mem.tail _ (List.Mem.tail _ (List.Mem.tail _ (List.Mem.head _)))))))))))))))
  have fz1 := H.frozen (w.heap.size) 1 (List.Mem.tail _ (List.Mem.tail _ (List.Mem.tail _ (List.Mem.tail _ (List.Mem.tail _ (List.Mem.tail _ (List.Mem.tail _ (List.Mem.tail _ (List.Mem.tail _ (List.Mem.tail _ (List.Mem.tail _ (List.Mem.tail _ (List.Mem.tail _ (List.Mem.tail _ (List.Mem.tail _ (List.Mem.head _))))))))))))))))
  have HK := H.old
  clear H
  go_wp2_with fail
  exact bodyPost_ret (v := .tuple #[.agg #[.int .i64 p, .int .i64 q], .int .i64 0]) (by simp [results, Tryz.results22, go_sem, cz0, cz1]) rfl ⟨rfl, (HK.setCell (by simp <;> omega) _).setCell (by simp <;> omega) _⟩

set_option maxHeartbeats 1000000 in
theorem risda_day (a b k : Int) (w : World) (h : (a < 1 ∨ 3652059 < a) ∨ (b < 1 ∨ 3652059 < b)) :
    Calls Tryz.prog 22 #[.int .i64 a, .int .i64 b, .int .i64 k] w fun e' w' => e' = .returned (.tuple #[.agg #[.int .i64 0, .int .i64 0], .int .i64 3]) ∧ Below w.heap.size w w' := by
  have H := Held.start w
  have W1 : Hid (WhyIs_ty a b 3) := Lib.hid (Or.inl ⟨h, rfl⟩)
  go_enter Tryz.func22, Tryz.ntmps22
  go_wp2_with fail
  replace H := (H.pair (w.heap.size) (.int .i64 0) (.int .i64 0) 29 rfl)
  (with_reducible refine (rwhy_any_ty a b 3 _ W1.out).mono ?_)
  rintro e w1 ⟨rfl, hb⟩
  replace H := H.below hb
  clear hb
  have cz0 := H.cell (w.heap.size) 0 (.int .i64 0) (List.Mem.head _)
  have cz1 := H.cell (w.heap.size) 1 (.int .i64 0) (List.Mem.tail _ (List.Mem.head _))
  have lz := H.lt (w.heap.size) 0 (.int .i64 0) (List.Mem.head _)
  have fz0 := H.frozen (w.heap.size) 0 (List.Mem.tail _ (List.Mem.tail _ (List.Mem.head _)))
  have fz1 := H.frozen (w.heap.size) 1 (List.Mem.tail _ (List.Mem.tail _ (List.Mem.tail _ (List.Mem.head _))))
  have HK := H.old
  clear H
  go_wp2_with fail
  exact bodyPost_ret (v := .tuple #[.agg #[.int .i64 0, .int .i64 0], .int .i64 3]) (by simp [results, Tryz.results22, go_sem, cz0, cz1]) rfl ⟨rfl, (HK.setCell (by simp <;> omega) _).setCell (by simp <;> omega) _⟩

set_option maxHeartbeats 1000000 in
theorem risda_order (a b k : Int) (w : World) (h1 : 1 ≤ a ∧ a ≤ 3652059) (h2 : 1 ≤ b ∧ b ≤ 3652059) (h : b < a) :
    Calls Tryz.prog 22 #[.int .i64 a, .int .i64 b, .int .i64 k] w fun e' w' => e' = .returned (.tuple #[.agg #[.int .i64 0, .int .i64 0], .int .i64 4]) ∧ Below w.heap.size w w' := by
  have H := Held.start w
  have W1 : Hid (WhyIs_ty a b 4) := Lib.hid (Or.inr (Or.inl ⟨h1, h2, h, rfl⟩))
  go_enter Tryz.func22, Tryz.ntmps22
  go_wp2_with fail
  replace H := (H.pair (w.heap.size) (.int .i64 0) (.int .i64 0) 29 rfl)
  (with_reducible refine (rwhy_any_ty a b 4 _ W1.out).mono ?_)
  rintro e w1 ⟨rfl, hb⟩
  replace H := H.below hb
  clear hb
  have cz0 := H.cell (w.heap.size) 0 (.int .i64 0) (List.Mem.head _)
  have cz1 := H.cell (w.heap.size) 1 (.int .i64 0) (List.Mem.tail _ (List.Mem.head _))
  have lz := H.lt (w.heap.size) 0 (.int .i64 0) (List.Mem.head _)
  have fz0 := H.frozen (w.heap.size) 0 (List.Mem.tail _ (List.Mem.tail _ (List.Mem.head _)))
  have fz1 := H.frozen (w.heap.size) 1 (List.Mem.tail _ (List.Mem.tail _ (List.Mem.tail _ (List.Mem.head _))))
  have HK := H.old
  clear H
  go_wp2_with fail
  exact bodyPost_ret (v := .tuple #[.agg #[.int .i64 0, .int .i64 0], .int .i64 4]) (by simp [results, Tryz.results22, go_sem, cz0, cz1]) rfl ⟨rfl, (HK.setCell (by simp <;> omega) _).setCell (by simp <;> omega) _⟩

theorem risda_any (a b k p q c : Int) (w : World) (h : PartIs (iX (decide (b = k))) a b p q c) : Calls Tryz.prog 22 #[.int .i64 a, .int .i64 b, .int .i64 k] w fun e' w' => e' = .returned (.tuple #[.agg #[.int .i64 p, .int .i64 q], .int .i64 c]) ∧ Below w.heap.size w w' := by
  rcases h with ⟨y1, m1, d1, y2, m2, d2, h1, ha, h2, hb, hab, hp, hq, rfl⟩ | ⟨h, rfl, rfl, rfl⟩ | ⟨h1, h2, h, rfl, rfl, rfl⟩
  · unfold iX fulD isB at hp hq
    by_cases n1 : d1 = ln y1 m1
    · rw [if_pos n1] at hp hq
      by_cases n2 : d2 = ln y2 m2
      · by_cases n3 : b = k
        · subst n3
          by_cases n4 : m2 = 2
          · rw [if_neg (by simp [n4])] at hp hq
            exact risda_13 a b y1 m1 d1 y2 m2 d2 p q w h1 ha h2 hb hab (decide_eq_true n1) (decide_eq_true n2) n4 hp hq
          · rw [if_pos ⟨n2, by simp [n4]⟩] at hp hq
            exact risda_12 a b y1 m1 d1 y2 m2 d2 p q w h1 ha h2 hb hab (decide_eq_true n1) (decide_eq_true n2) n4 hp hq
        · rw [if_pos ⟨n2, by simp [n3]⟩] at hp hq
          exact risda_11 a b y1 m1 d1 y2 m2 d2 p q k w h1 ha h2 hb hab (decide_eq_true n1) (decide_eq_true n2) n3 hp hq
      · rw [if_neg (fun hh => n2 hh.1)] at hp hq
        exact risda_10 a b y1 m1 d1 y2 m2 d2 p q k w h1 ha h2 hb hab (decide_eq_true n1) (decide_eq_false n2) hp hq
    · rw [if_neg n1] at hp hq
      by_cases n2 : d2 = ln y2 m2
      · by_cases n3 : b = k
        · subst n3
          by_cases n4 : m2 = 2
          · rw [if_neg (by simp [n4])] at hp hq
            exact risda_03 a b y1 m1 d1 y2 m2 d2 p q w h1 ha h2 hb hab (decide_eq_false n1) (decide_eq_true n2) n4 hp hq
          · rw [if_pos ⟨n2, by simp [n4]⟩] at hp hq
            exact risda_02 a b y1 m1 d1 y2 m2 d2 p q w h1 ha h2 hb hab (decide_eq_false n1) (decide_eq_true n2) n4 hp hq
        · rw [if_pos ⟨n2, by simp [n3]⟩] at hp hq
          exact risda_01 a b y1 m1 d1 y2 m2 d2 p q k w h1 ha h2 hb hab (decide_eq_false n1) (decide_eq_true n2) n3 hp hq
      · rw [if_neg (fun hh => n2 hh.1)] at hp hq
        exact risda_00 a b y1 m1 d1 y2 m2 d2 p q k w h1 ha h2 hb hab (decide_eq_false n1) (decide_eq_false n2) hp hq
  · exact risda_day a b k w h
  · exact risda_order a b k w h1 h2 h
end Go.Proofs.YtkmchbllnfoccaaGreatDoor
/- The reference of layer 7: US. -/
namespace Go.Proofs.YtkmchbllnfoccaaGreatDoor
open Go.RowKit
set_option linter.unusedVariables false
set_option linter.unusedSimpArgs false

set_option maxHeartbeats 1000000 in
theorem rfeb_no (n y m d : Int) (w : World) (hl : LastIs n false) :
    Calls Tryz.prog 37 #[.int .i64 n, .agg #[.int .i64 y, .int .i64 m, .int .i64 d]] w fun e' w' => e' = .returned (.bool false) ∧ Below w.heap.size w w' := by
  have H := Held.start w
  have L1 := Lib.hid hl
  clear hl
  go_enter Tryz.func37, Tryz.ntmps37
  go_wp2_with fail
  replace H := (H.triple (w.heap.size) (.int .i64 y) (.int .i64 m) (.int .i64 d) 78 rfl)
  (with_reducible refine (rlast_any n false _ L1.out).mono ?_)
  rintro e w1 ⟨rfl, hb⟩
  replace H := H.below hb
  clear hb
  have ca0 := H.cell (w.heap.size) 0 (.int .i64 y) (List.Mem.head _)
  have ca1 := H.cell (w.heap.size) 1 (.int .i64 m) (List.Mem.tail _ (List.Mem.head _))
  have ca2 := H.cell (w.heap.size) 2 (.int .i64 d) (List.Mem.tail _ (List.Mem.tail _ (List.Mem.head _)))
  have la := H.lt (w.heap.size) 0 (.int .i64 y) (List.Mem.head _)
  have HK := H.old
  clear H
  go_wp2
  go_ret
  exact ⟨rfl, HK⟩

set_option maxHeartbeats 1000000 in
theorem rfeb_two (n y d : Int) (w : World) (hl : LastIs n true) :
    Calls Tryz.prog 37 #[.int .i64 n, .agg #[.int .i64 y, .int .i64 2, .int .i64 d]] w fun e' w' => e' = .returned (.bool true) ∧ Below w.heap.size w w' := by
  have H := Held.start w
  have L1 := Lib.hid hl
  clear hl
  go_enter Tryz.func37, Tryz.ntmps37
  go_wp2_with fail
  replace H := (H.triple (w.heap.size) (.int .i64 y) (.int .i64 2) (.int .i64 d) 78 rfl)
  (with_reducible refine (rlast_any n true _ L1.out).mono ?_)
  rintro e w1 ⟨rfl, hb⟩
  replace H := H.below hb
  clear hb
  have ca0 := H.cell (w.heap.size) 0 (.int .i64 y) (List.Mem.head _)
  have ca1 := H.cell (w.heap.size) 1 (.int .i64 2) (List.Mem.tail _ (List.Mem.head _))
  have ca2 := H.cell (w.heap.size) 2 (.int .i64 d) (List.Mem.tail _ (List.Mem.tail _ (List.Mem.head _)))
  have la := H.lt (w.heap.size) 0 (.int .i64 y) (List.Mem.head _)
  have HK := H.old
  clear H
  go_wp2
  go_ret
  exact ⟨rfl, HK⟩

set_option maxHeartbeats 1000000 in
theorem rfeb_other (n y m d : Int) (w : World) (hl : LastIs n true) (hm : m ≠ 2) :
    Calls Tryz.prog 37 #[.int .i64 n, .agg #[.int .i64 y, .int .i64 m, .int .i64 d]] w fun e' w' => e' = .returned (.bool false) ∧ Below w.heap.size w w' := by
  have H := Held.start w
  have L1 := Lib.hid hl
  clear hl
  have t1 : (m == 2) = false := beq_eq_false_iff_ne.2 hm
  clear hm
  go_enter Tryz.func37, Tryz.ntmps37
  go_wp2_with fail
  replace H := (H.triple (w.heap.size) (.int .i64 y) (.int .i64 m) (.int .i64 d) 78 rfl)
  (with_reducible refine (rlast_any n true _ L1.out).mono ?_)
  rintro e w1 ⟨rfl, hb⟩
  replace H := H.below hb
  clear hb
  have ca0 := H.cell (w.heap.size) 0 (.int .i64 y) (List.Mem.head _)
  have ca1 := H.cell (w.heap.size) 1 (.int .i64 m) (List.Mem.tail _ (List.Mem.head _))
  have ca2 := H.cell (w.heap.size) 2 (.int .i64 d) (List.Mem.tail _ (List.Mem.tail _ (List.Mem.head _)))
  have la := H.lt (w.heap.size) 0 (.int .i64 y) (List.Mem.head _)
  have HK := H.old
  clear H
  go_wp2
  go_ret
  exact ⟨rfl, HK⟩

theorem rfeb_is (n y m d : Int) (b : Bool) (w : World) (h : may y m d) (hn : nb y m d = n) (hb : febB y m d = b) : Calls Tryz.prog 37 #[.int .i64 n, .agg #[.int .i64 y, .int .i64 m, .int .i64 d]] w fun e' w' => e' = .returned (.bool b) ∧ Below w.heap.size w w' := by
  subst hb
  unfold febB
  by_cases hl : d = ln y m
  · by_cases hm : m = 2
    · subst hm
      rw [decide_eq_true (show (2 : Int) = 2 ∧ d = ln y 2 from ⟨rfl, hl⟩)]
      exact rfeb_two n y d w (last_in y 2 d h hn (decide_eq_true hl))
    · rw [decide_eq_false (show ¬ (m = 2 ∧ d = ln y m) from fun hh => hm hh.1)]
      exact rfeb_other n y m d w (last_in y m d h hn (decide_eq_true hl)) hm
  · rw [decide_eq_false (show ¬ (m = 2 ∧ d = ln y m) from fun hh => hl hh.2)]
    exact rfeb_no n y m d w (last_in y m d h hn (decide_eq_false hl))

set_option maxHeartbeats 1000000 in
theorem rus_n3131 (a b y1 m1 y2 m2 p q : Int) (g1 : Bool) (g2 : Bool) (w : World) (h1 : may y1 m1 31) (ha : nb y1 m1 31 = a) (h2 : may y2 m2 31) (hb : nb y2 m2 31 = b) (hab : a ≤ b) (hf1 : febB y1 m1 31 = g1) (hf2 : febB y2 m2 31 = g2) (hp : rN (px y1 m1 30 y2 m2 30) 360 = p) (hq : rD (px y1 m1 30 y2 m2 30) 360 = q) :
    Calls Tryz.prog 20 #[.int .i64 a, .int .i64 b, .bool false] w fun e' w' => e' = .returned (.tuple #[.agg #[.int .i64 p, .int .i64 q], .int .i64 0]) ∧ Below w.heap.size w w' := by
  have H := Held.start w
  have b1 := nb_bd _ _ _ h1
  have b2 := nb_bd _ _ _ h2
  rw [ha] at b1
  rw [hb] at b2
  have W1 : Hid (WhyIs_ty a b 0) := Lib.hid (Or.inr (Or.inr ⟨b1, b2, hab, rfl⟩))
  have O1 : Hid (DayIs a y1 m1 31 0) := Lib.hid (Or.inl ⟨h1, ha, rfl⟩)
  have O2 : Hid (DayIs b y2 m2 31 0) := Lib.hid (Or.inl ⟨h2, hb, rfl⟩)
  have l1 := ln_le y1 m1
  have l2 := ln_le y2 m2
  obtain ⟨u1, u2, u3, u4, u5, u6⟩ := h1
  obtain ⟨v1, v2, v3, v4, v5, v6⟩ := h2
  have w1 : 0 ≤ 31 ∧ 31 ≤ 31 := by omega
  have w2 : 0 ≤ 31 ∧ 31 ≤ 31 := by omega
  clear l1 l2
  have HP := Lib.hid hp
  have HQ := Lib.hid hq
  clear hp hq
  have F1 : Hid (∀ v, Calls Tryz.prog 37 #[.int .i64 a, .agg #[.int .i64 y1, .int .i64 m1, .int .i64 31]] v fun e w' => e = .returned (.bool g1) ∧ Below v.heap.size v w') := Lib.hid (fun v => rfeb_is a y1 m1 31 g1 v ⟨u1, u2, u3, u4, u5, u6⟩ ha hf1)
  have F2 : Hid (∀ v, Calls Tryz.prog 37 #[.int .i64 b, .agg #[.int .i64 y2, .int .i64 m2, .int .i64 31]] v fun e w' => e = .returned (.bool g2) ∧ Below v.heap.size v w') := Lib.hid (fun v => rfeb_is b y2 m2 31 g2 v ⟨v1, v2, v3, v4, v5, v6⟩ hb hf2)
  clear hf1 hf2
  clear ha hb hab u6 v6
  go_enter Tryz.func20, Tryz.ntmps20
  go_wp2_with fail
  replace H := (H.pair (w.heap.size) (.int .i64 0) (.int .i64 0) 29 rfl)
  (with_reducible refine (rwhy_any_ty a b 0 _ W1.out).mono ?_)
  rintro e w1 ⟨rfl, hb⟩
  replace H := H.below hb
  clear hb
  go_wp2_with fail
  (with_reducible refine (rof_any a y1 m1 31 0 _ O1.out).mono ?_)
  rintro e w2 ⟨rfl, hb⟩
  replace H := H.below hb
  clear hb
  go_wp2_with fail
  replace H := (H.triple (w2.heap.size) (.int .i64 y1) (.int .i64 m1) (.int .i64 31) 78 rfl)
  (with_reducible refine (rof_any b y2 m2 31 0 _ O2.out).mono ?_)
  rintro e w3 ⟨rfl, hb⟩
  replace H := H.below hb
  clear hb
  have ca0 := H.cell (w2.heap.size) 0 (.int .i64 y1) (List.Mem.head _)
  have ca1 := H.cell (w2.heap.size) 1 (.int .i64 m1) (List.Mem.tail _ (List.Mem.head _))
  have ca2 := H.cell (w2.heap.size) 2 (.int .i64 31) (List.Mem.tail _ (List.Mem.tail _ (List.Mem.head _)))
  have la := H.lt (w2.heap.size) 0 (.int .i64 y1) (List.Mem.head _)
  go_wp2_with fail
  clear ca0 ca1 ca2 la
  replace H := (H.triple (w3.heap.size) (.int .i64 y2) (.int .i64 m2) (.int .i64 31) 78 rfl)
  (with_reducible refine (F1.out _).mono ?_)
  rintro e w4 ⟨rfl, hb⟩
  replace H := H.below hb
  clear hb
  have ca0 := H.cell (w2.heap.size) 0 (.int .i64 y1) (List.Mem.tail _ (List.Mem.tail _ (List.Mem.tail _ (List.Mem.tail _ (List.Mem.tail _ (List.Mem.tail _ (List.Mem.head _)))))))
  have ca1 := H.cell (w2.heap.size) 1 (.int .i64 m1) (List.Mem.tail _ (List.Mem.tail _ (List.Mem.tail _ (List.Mem.tail _ (List.Mem.tail _ (List.Mem.tail _ (List.Mem.tail _ (List.Mem.head _))))))))
  have ca2 := H.cell (w2.heap.size) 2 (.int .i64 31) (List.Mem.tail _ (List.Mem.tail _ (List.Mem.tail _ (List.Mem.tail _ (List.Mem.tail _ (List.Mem.tail _ (List.Mem.tail _ (List.Mem.tail _ (List.Mem.head _)))))))))
  have la := H.lt (w2.heap.size) 0 (.int .i64 y1) (List.Mem.tail _ (List.Mem.tail _ (List.Mem.tail _ (List.Mem.tail _ (List.Mem.tail _ (List.Mem.tail _ (List.Mem.head _)))))))
  have cb0 := H.cell (w3.heap.size) 0 (.int .i64 y2) (List.Mem.head _)
  have cb1 := H.cell (w3.heap.size) 1 (.int .i64 m2) (List.Mem.tail _ (List.Mem.head _))
  have cb2 := H.cell (w3.heap.size) 2 (.int .i64 31) (List.Mem.tail _ (List.Mem.tail _ (List.Mem.head _)))
  have lb := H.lt (w3.heap.size) 0 (.int .i64 y2) (List.Mem.head _)
  go_wp2_with fail
  clear ca0 ca1 ca2 la cb0 cb1 cb2 lb
  (with_reducible refine (F2.out _).mono ?_)
  rintro e w5 ⟨rfl, hb⟩
  replace H := H.below hb
  clear hb
  have ca0 := H.cell (w2.heap.size) 0 (.int .i64 y1) (List.Mem.tail _ (List.Mem.tail _ (List.Mem.tail _ (List.Mem.tail _ (List.Mem.tail _ (List.Mem.tail _ (List.Mem.head _)))))))
  have ca1 := H.cell (w2.heap.size) 1 (.int .i64 m1) (List.Mem.tail _ (List.Mem.tail _ (List.Mem.tail _ (List.Mem.tail _ (List.Mem.tail _ (List.Mem.tail _ (List.Mem.tail _ (List.Mem.head _))))))))
  have ca2 := H.cell (w2.heap.size) 2 (.int .i64 31) (List.Mem.tail _ (List.Mem.tail _ (List.Mem.tail _ (List.Mem.tail _ (List.Mem.tail _ (List.Mem.tail _ (List.Mem.tail _ (List.Mem.tail _ (List.Mem.head _)))))))))
  have la := H.lt (w2.heap.size) 0 (.int .i64 y1) (List.Mem.tail _ (List.Mem.tail _ (List.Mem.tail _ (List.Mem.tail _ (List.Mem.tail _ (List.Mem.tail _ (List.Mem.head _)))))))
  have cb0 := H.cell (w3.heap.size) 0 (.int .i64 y2) (List.Mem.head _)
  have cb1 := H.cell (w3.heap.size) 1 (.int .i64 m2) (List.Mem.tail _ (List.Mem.head _))
  have cb2 := H.cell (w3.heap.size) 2 (.int .i64 31) (List.Mem.tail _ (List.Mem.tail _ (List.Mem.head _)))
  have lb := H.lt (w3.heap.size) 0 (.int .i64 y2) (List.Mem.head _)
  go_wp2_with fail
  clear ca0 ca1 ca2 la cb0 cb1 cb2 lb
  (with_reducible refine (rpart_any y1 m1 31 y2 m2 31 30 30 p q _ ⟨u1, u2⟩ ⟨v1, v2⟩ ⟨u3, u4⟩ ⟨v3, v4⟩ (by omega) (by omega) HP.out HQ.out).mono ?_)
  rintro e w6 ⟨rfl, hb⟩
  replace H := H.below hb
  clear hb
  have cz0 := H.cell (w.heap.size) 0 (.int .i64 0) (List.Mem.tail _ (List.Mem.tail _ (List.Mem.tail _ (List.Mem.tail _ (List.Mem.tail _ (List.Mem.tail _ (List.Mem.tail _ (List.Mem.tail _ (List.Mem.tail _ (List.Mem.tail _ (List.Mem.tail _ (List.Mem.tail _ (List.Mem.head _)))))))))))))
  have cz1 := H.cell (w.heap.size) 1 (.int .i64 0) (List.Mem.tail _ (List.Mem.tail _ (List.Mem.tail _ (List.Mem.tail _ (List.Mem.tail _ (List.Mem.tail _ (List.Mem.tail _ (List.Mem.tail _ (List.Mem.tail _ (List.Mem.tail _ (List.Mem.tail _ (List.Mem.tail _ (List.Mem.tail _ (List.Mem.head _))))))))))))))
  have lz := H.lt (w.heap.size) 0 (.int .i64 0) (List.Mem.tail _ (List.Mem.tail _ (List.Mem.tail _ (List.Mem.tail _ (List.Mem.tail _ (List.Mem.tail _ (List.Mem.tail _ (List.Mem.tail _ (List.Mem.tail _ (List.Mem.tail _ (List.Mem.tail _ (List.Mem.tail _ (List.Mem.head _)))))))))))))
  have fz0 := H.frozen (w.heap.size) 0 (List.Mem.tail _ (List.Mem.tail _ (List.Mem.tail _ (List.Mem.tail _ (List.Mem.tail _ (List.Mem.tail _ (List.Mem.tail _ (List.Mem.tail _ (List.Mem.tail _ (List.Mem.tail _ (List.Mem.tail _ (List.Mem.tail _ (List.Mem.tail _ (List.Mem.tail _ (List.Mem.head _)))))))))))))))
  have fz1 := H.frozen (w.heap.size) 1 (List.Mem.tail _ (List.Mem.tail _ (List.Mem.tail _ (List.Mem.tail _ (List.Mem.tail _ (List.Mem.tail _ (List.Mem.tail _ (List.Mem.tail _ (List.Mem.tail _ (List.Mem.tail _ (List.Mem.tail _ (List.Mem.tail _ (List.Mem.tail _ (List.Mem.tail _ (List.Mem.tail _ (List.Mem.head _))))))))))))))))
  have HK := H.old
  clear H
  go_wp2_with fail
  exact bodyPost_ret (v := .tuple #[.agg #[.int .i64 p, .int .i64 q], .int .i64 0]) (by simp [results, Tryz.results20, go_sem, cz0, cz1]) rfl ⟨rfl, (HK.setCell (by simp <;> omega) _).setCell (by simp <;> omega) _⟩

set_option maxHeartbeats 1000000 in
theorem rus_n31d2 (a b y1 m1 y2 m2 d2 p q : Int) (g1 : Bool) (g2 : Bool) (w : World) (h1 : may y1 m1 31) (ha : nb y1 m1 31 = a) (h2 : may y2 m2 d2) (hb : nb y2 m2 d2 = b) (hab : a ≤ b) (hf1 : febB y1 m1 31 = g1) (hf2 : febB y2 m2 d2 = g2) (n2 : d2 ≠ 31) (hp : rN (px y1 m1 30 y2 m2 d2) 360 = p) (hq : rD (px y1 m1 30 y2 m2 d2) 360 = q) :
    Calls Tryz.prog 20 #[.int .i64 a, .int .i64 b, .bool false] w fun e' w' => e' = .returned (.tuple #[.agg #[.int .i64 p, .int .i64 q], .int .i64 0]) ∧ Below w.heap.size w w' := by
  have H := Held.start w
  have b1 := nb_bd _ _ _ h1
  have b2 := nb_bd _ _ _ h2
  rw [ha] at b1
  rw [hb] at b2
  have W1 : Hid (WhyIs_ty a b 0) := Lib.hid (Or.inr (Or.inr ⟨b1, b2, hab, rfl⟩))
  have O1 : Hid (DayIs a y1 m1 31 0) := Lib.hid (Or.inl ⟨h1, ha, rfl⟩)
  have O2 : Hid (DayIs b y2 m2 d2 0) := Lib.hid (Or.inl ⟨h2, hb, rfl⟩)
  have l1 := ln_le y1 m1
  have l2 := ln_le y2 m2
  obtain ⟨u1, u2, u3, u4, u5, u6⟩ := h1
  obtain ⟨v1, v2, v3, v4, v5, v6⟩ := h2
  have w1 : 0 ≤ 31 ∧ 31 ≤ 31 := by omega
  have w2 : 0 ≤ d2 ∧ d2 ≤ 31 := by omega
  clear l1 l2
  have HP := Lib.hid hp
  have HQ := Lib.hid hq
  clear hp hq
  have F1 : Hid (∀ v, Calls Tryz.prog 37 #[.int .i64 a, .agg #[.int .i64 y1, .int .i64 m1, .int .i64 31]] v fun e w' => e = .returned (.bool g1) ∧ Below v.heap.size v w') := Lib.hid (fun v => rfeb_is a y1 m1 31 g1 v ⟨u1, u2, u3, u4, u5, u6⟩ ha hf1)
  have F2 : Hid (∀ v, Calls Tryz.prog 37 #[.int .i64 b, .agg #[.int .i64 y2, .int .i64 m2, .int .i64 d2]] v fun e w' => e = .returned (.bool g2) ∧ Below v.heap.size v w') := Lib.hid (fun v => rfeb_is b y2 m2 d2 g2 v ⟨v1, v2, v3, v4, v5, v6⟩ hb hf2)
  clear hf1 hf2
  have t2 : (d2 == 31) = false := beq_eq_false_iff_ne.2 n2
  clear ha hb hab u6 v6
  go_enter Tryz.func20, Tryz.ntmps20
  go_wp2_with fail
  replace H := (H.pair (w.heap.size) (.int .i64 0) (.int .i64 0) 29 rfl)
  (with_reducible refine (rwhy_any_ty a b 0 _ W1.out).mono ?_)
  rintro e w1 ⟨rfl, hb⟩
  replace H := H.below hb
  clear hb
  go_wp2_with fail
  (with_reducible refine (rof_any a y1 m1 31 0 _ O1.out).mono ?_)
  rintro e w2 ⟨rfl, hb⟩
  replace H := H.below hb
  clear hb
  go_wp2_with fail
  replace H := (H.triple (w2.heap.size) (.int .i64 y1) (.int .i64 m1) (.int .i64 31) 78 rfl)
  (with_reducible refine (rof_any b y2 m2 d2 0 _ O2.out).mono ?_)
  rintro e w3 ⟨rfl, hb⟩
  replace H := H.below hb
  clear hb
  have ca0 := H.cell (w2.heap.size) 0 (.int .i64 y1) (List.Mem.head _)
  have ca1 := H.cell (w2.heap.size) 1 (.int .i64 m1) (List.Mem.tail _ (List.Mem.head _))
  have ca2 := H.cell (w2.heap.size) 2 (.int .i64 31) (List.Mem.tail _ (List.Mem.tail _ (List.Mem.head _)))
  have la := H.lt (w2.heap.size) 0 (.int .i64 y1) (List.Mem.head _)
  go_wp2_with fail
  clear ca0 ca1 ca2 la
  replace H := (H.triple (w3.heap.size) (.int .i64 y2) (.int .i64 m2) (.int .i64 d2) 78 rfl)
  (with_reducible refine (F1.out _).mono ?_)
  rintro e w4 ⟨rfl, hb⟩
  replace H := H.below hb
  clear hb
  have ca0 := H.cell (w2.heap.size) 0 (.int .i64 y1) (List.Mem.tail _ (List.Mem.tail _ (List.Mem.tail _ (List.Mem.tail _ (List.Mem.tail _ (List.Mem.tail _ (List.Mem.head _)))))))
  have ca1 := H.cell (w2.heap.size) 1 (.int .i64 m1) (List.Mem.tail _ (List.Mem.tail _ (List.Mem.tail _ (List.Mem.tail _ (List.Mem.tail _ (List.Mem.tail _ (List.Mem.tail _ (List.Mem.head _))))))))
  have ca2 := H.cell (w2.heap.size) 2 (.int .i64 31) (List.Mem.tail _ (List.Mem.tail _ (List.Mem.tail _ (List.Mem.tail _ (List.Mem.tail _ (List.Mem.tail _ (List.Mem.tail _ (List.Mem.tail _ (List.Mem.head _)))))))))
  have la := H.lt (w2.heap.size) 0 (.int .i64 y1) (List.Mem.tail _ (List.Mem.tail _ (List.Mem.tail _ (List.Mem.tail _ (List.Mem.tail _ (List.Mem.tail _ (List.Mem.head _)))))))
  have cb0 := H.cell (w3.heap.size) 0 (.int .i64 y2) (List.Mem.head _)
  have cb1 := H.cell (w3.heap.size) 1 (.int .i64 m2) (List.Mem.tail _ (List.Mem.head _))
  have cb2 := H.cell (w3.heap.size) 2 (.int .i64 d2) (List.Mem.tail _ (List.Mem.tail _ (List.Mem.head _)))
  have lb := H.lt (w3.heap.size) 0 (.int .i64 y2) (List.Mem.head _)
  go_wp2_with fail
  clear ca0 ca1 ca2 la cb0 cb1 cb2 lb
  (with_reducible refine (F2.out _).mono ?_)
  rintro e w5 ⟨rfl, hb⟩
  replace H := H.below hb
  clear hb
  have ca0 := H.cell (w2.heap.size) 0 (.int .i64 y1) (List.Mem.tail _ (List.Mem.tail _ (List.Mem.tail _ (List.Mem.tail _ (List.Mem.tail _ (List.Mem.tail _ (List.Mem.head _)))))))
  have ca1 := H.cell (w2.heap.size) 1 (.int .i64 m1) (List.Mem.tail _ (List.Mem.tail _ (List.Mem.tail _ (List.Mem.tail _ (List.Mem.tail _ (List.Mem.tail _ (List.Mem.tail _ (List.Mem.head _))))))))
  have ca2 := H.cell (w2.heap.size) 2 (.int .i64 31) (List.Mem.tail _ (List.Mem.tail _ (List.Mem.tail _ (List.Mem.tail _ (List.Mem.tail _ (List.Mem.tail _ (List.Mem.tail _ (List.Mem.tail _ (List.Mem.head _)))))))))
  have la := H.lt (w2.heap.size) 0 (.int .i64 y1) (List.Mem.tail _ (List.Mem.tail _ (List.Mem.tail _ (List.Mem.tail _ (List.Mem.tail _ (List.Mem.tail _ (List.Mem.head _)))))))
  have cb0 := H.cell (w3.heap.size) 0 (.int .i64 y2) (List.Mem.head _)
  have cb1 := H.cell (w3.heap.size) 1 (.int .i64 m2) (List.Mem.tail _ (List.Mem.head _))
  have cb2 := H.cell (w3.heap.size) 2 (.int .i64 d2) (List.Mem.tail _ (List.Mem.tail _ (List.Mem.head _)))
  have lb := H.lt (w3.heap.size) 0 (.int .i64 y2) (List.Mem.head _)
  go_wp2_with fail
  clear ca0 ca1 ca2 la cb0 cb1 cb2 lb
  (with_reducible refine (rpart_any y1 m1 31 y2 m2 d2 30 d2 p q _ ⟨u1, u2⟩ ⟨v1, v2⟩ ⟨u3, u4⟩ ⟨v3, v4⟩ (by omega) (by omega) HP.out HQ.out).mono ?_)
  rintro e w6 ⟨rfl, hb⟩
  replace H := H.below hb
  clear hb
  have cz0 := H.cell (w.heap.size) 0 (.int .i64 0) (List.Mem.tail _ (List.Mem.tail _ (List.Mem.tail _ (List.Mem.tail _ (List.Mem.tail _ (List.Mem.tail _ (List.Mem.tail _ (List.Mem.tail _ (List.Mem.tail _ (List.Mem.tail _ (List.Mem.tail _ (List.Mem.tail _ (List.Mem.head _)))))))))))))
  have cz1 := H.cell (w.heap.size) 1 (.int .i64 0) (List.Mem.tail _ (List.Mem.tail _ (List.Mem.tail _ (List.Mem.tail _ (List.Mem.tail _ (List.Mem.tail _ (List.Mem.tail _ (List.Mem.tail _ (List.Mem.tail _ (List.Mem.tail _ (List.Mem.tail _ (List.Mem.tail _ (List.Mem.tail _ (List.Mem.head _))))))))))))))
  have lz := H.lt (w.heap.size) 0 (.int .i64 0) (List.Mem.tail _ (List.Mem.tail _ (List.Mem.tail _ (List.Mem.tail _ (List.Mem.tail _ (List.Mem.tail _ (List.Mem.tail _ (List.Mem.tail _ (List.Mem.tail _ (List.Mem.tail _ (List.Mem.tail _ (List.Mem.tail _ (List.Mem.head _)))))))))))))
  have fz0 := H.frozen (w.heap.size) 0 (List.Mem.tail _ (List.Mem.tail _ (List.Mem.tail _ (List.Mem.tail _ (List.Mem.tail _ (List.Mem.tail _ (List.Mem.tail _ (List.Mem.tail _ (List.Mem.tail _ (List.Mem.tail _ (List.Mem.tail _ (List.Mem.tail _ (List.Mem.tail _ (List.Mem.tail _ (List.Mem.head _)))))))))))))))
  have fz1 := H.frozen (w.heap.size) 1 (List.Mem.tail _ (List.Mem.tail _ (List.Mem.tail _ (List.Mem.tail _ (List.Mem.tail _ (List.Mem.tail _ (List.Mem.tail _ (List.Mem.tail _ (List.Mem.tail _ (List.Mem.tail _ (List.Mem.tail _ (List.Mem.tail _ (List.Mem.tail _ (List.Mem.tail _ (List.Mem.tail _ (List.Mem.head _))))))))))))))))
  have HK := H.old
  clear H
  go_wp2_with fail
  exact bodyPost_ret (v := .tuple #[.agg #[.int .i64 p, .int .i64 q], .int .i64 0]) (by simp [results, Tryz.results20, go_sem, cz0, cz1]) rfl ⟨rfl, (HK.setCell (by simp <;> omega) _).setCell (by simp <;> omega) _⟩

set_option maxHeartbeats 1000000 in
theorem rus_n3031 (a b y1 m1 y2 m2 p q : Int) (g1 : Bool) (g2 : Bool) (w : World) (h1 : may y1 m1 30) (ha : nb y1 m1 30 = a) (h2 : may y2 m2 31) (hb : nb y2 m2 31 = b) (hab : a ≤ b) (hf1 : febB y1 m1 30 = g1) (hf2 : febB y2 m2 31 = g2) (hp : rN (px y1 m1 30 y2 m2 30) 360 = p) (hq : rD (px y1 m1 30 y2 m2 30) 360 = q) :
    Calls Tryz.prog 20 #[.int .i64 a, .int .i64 b, .bool false] w fun e' w' => e' = .returned (.tuple #[.agg #[.int .i64 p, .int .i64 q], .int .i64 0]) ∧ Below w.heap.size w w' := by
  have H := Held.start w
  have b1 := nb_bd _ _ _ h1
  have b2 := nb_bd _ _ _ h2
  rw [ha] at b1
  rw [hb] at b2
  have W1 : Hid (WhyIs_ty a b 0) := Lib.hid (Or.inr (Or.inr ⟨b1, b2, hab, rfl⟩))
  have O1 : Hid (DayIs a y1 m1 30 0) := Lib.hid (Or.inl ⟨h1, ha, rfl⟩)
  have O2 : Hid (DayIs b y2 m2 31 0) := Lib.hid (Or.inl ⟨h2, hb, rfl⟩)
  have l1 := ln_le y1 m1
  have l2 := ln_le y2 m2
  obtain ⟨u1, u2, u3, u4, u5, u6⟩ := h1
  obtain ⟨v1, v2, v3, v4, v5, v6⟩ := h2
  have w1 : 0 ≤ 30 ∧ 30 ≤ 31 := by omega
  have w2 : 0 ≤ 31 ∧ 31 ≤ 31 := by omega
  clear l1 l2
  have HP := Lib.hid hp
  have HQ := Lib.hid hq
  clear hp hq
  have F1 : Hid (∀ v, Calls Tryz.prog 37 #[.int .i64 a, .agg #[.int .i64 y1, .int .i64 m1, .int .i64 30]] v fun e w' => e = .returned (.bool g1) ∧ Below v.heap.size v w') := Lib.hid (fun v => rfeb_is a y1 m1 30 g1 v ⟨u1, u2, u3, u4, u5, u6⟩ ha hf1)
  have F2 : Hid (∀ v, Calls Tryz.prog 37 #[.int .i64 b, .agg #[.int .i64 y2, .int .i64 m2, .int .i64 31]] v fun e w' => e = .returned (.bool g2) ∧ Below v.heap.size v w') := Lib.hid (fun v => rfeb_is b y2 m2 31 g2 v ⟨v1, v2, v3, v4, v5, v6⟩ hb hf2)
  clear hf1 hf2
  clear ha hb hab u6 v6
  go_enter Tryz.func20, Tryz.ntmps20
  go_wp2_with fail
  replace H := (H.pair (w.heap.size) (.int .i64 0) (.int .i64 0) 29 rfl)
  (with_reducible refine (rwhy_any_ty a b 0 _ W1.out).mono ?_)
  rintro e w1 ⟨rfl, hb⟩
  replace H := H.below hb
  clear hb
  go_wp2_with fail
  (with_reducible refine (rof_any a y1 m1 30 0 _ O1.out).mono ?_)
  rintro e w2 ⟨rfl, hb⟩
  replace H := H.below hb
  clear hb
  go_wp2_with fail
  replace H := (H.triple (w2.heap.size) (.int .i64 y1) (.int .i64 m1) (.int .i64 30) 78 rfl)
  (with_reducible refine (rof_any b y2 m2 31 0 _ O2.out).mono ?_)
  rintro e w3 ⟨rfl, hb⟩
  replace H := H.below hb
  clear hb
  have ca0 := H.cell (w2.heap.size) 0 (.int .i64 y1) (List.Mem.head _)
  have ca1 := H.cell (w2.heap.size) 1 (.int .i64 m1) (List.Mem.tail _ (List.Mem.head _))
  have ca2 := H.cell (w2.heap.size) 2 (.int .i64 30) (List.Mem.tail _ (List.Mem.tail _ (List.Mem.head _)))
  have la := H.lt (w2.heap.size) 0 (.int .i64 y1) (List.Mem.head _)
  go_wp2_with fail
  clear ca0 ca1 ca2 la
  replace H := (H.triple (w3.heap.size) (.int .i64 y2) (.int .i64 m2) (.int .i64 31) 78 rfl)
  (with_reducible refine (F1.out _).mono ?_)
  rintro e w4 ⟨rfl, hb⟩
  replace H := H.below hb
  clear hb
  have ca0 := H.cell (w2.heap.size) 0 (.int .i64 y1) (List.Mem.tail _ (List.Mem.tail _ (List.Mem.tail _ (List.Mem.tail _ (List.Mem.tail _ (List.Mem.tail _ (List.Mem.head _)))))))
  have ca1 := H.cell (w2.heap.size) 1 (.int .i64 m1) (List.Mem.tail _ (List.Mem.tail _ (List.Mem.tail _ (List.Mem.tail _ (List.Mem.tail _ (List.Mem.tail _ (List.Mem.tail _ (List.Mem.head _))))))))
  have ca2 := H.cell (w2.heap.size) 2 (.int .i64 30) (List.Mem.tail _ (List.Mem.tail _ (List.Mem.tail _ (List.Mem.tail _ (List.Mem.tail _ (List.Mem.tail _ (List.Mem.tail _ (List.Mem.tail _ (List.Mem.head _)))))))))
  have la := H.lt (w2.heap.size) 0 (.int .i64 y1) (List.Mem.tail _ (List.Mem.tail _ (List.Mem.tail _ (List.Mem.tail _ (List.Mem.tail _ (List.Mem.tail _ (List.Mem.head _)))))))
  have cb0 := H.cell (w3.heap.size) 0 (.int .i64 y2) (List.Mem.head _)
  have cb1 := H.cell (w3.heap.size) 1 (.int .i64 m2) (List.Mem.tail _ (List.Mem.head _))
  have cb2 := H.cell (w3.heap.size) 2 (.int .i64 31) (List.Mem.tail _ (List.Mem.tail _ (List.Mem.head _)))
  have lb := H.lt (w3.heap.size) 0 (.int .i64 y2) (List.Mem.head _)
  go_wp2_with fail
  clear ca0 ca1 ca2 la cb0 cb1 cb2 lb
  (with_reducible refine (F2.out _).mono ?_)
  rintro e w5 ⟨rfl, hb⟩
  replace H := H.below hb
  clear hb
  have ca0 := H.cell (w2.heap.size) 0 (.int .i64 y1) (List.Mem.tail _ (List.Mem.tail _ (List.Mem.tail _ (List.Mem.tail _ (List.Mem.tail _ (List.Mem.tail _ (List.Mem.head _)))))))
  have ca1 := H.cell (w2.heap.size) 1 (.int .i64 m1) (List.Mem.tail _ (List.Mem.tail _ (List.Mem.tail _ (List.Mem.tail _ (List.Mem.tail _ (List.Mem.tail _ (List.Mem.tail _ (List.Mem.head _))))))))
  have ca2 := H.cell (w2.heap.size) 2 (.int .i64 30) (List.Mem.tail _ (List.Mem.tail _ (List.Mem.tail _ (List.Mem.tail _ (List.Mem.tail _ (List.Mem.tail _ (List.Mem.tail _ (List.Mem.tail _ (List.Mem.head _)))))))))
  have la := H.lt (w2.heap.size) 0 (.int .i64 y1) (List.Mem.tail _ (List.Mem.tail _ (List.Mem.tail _ (List.Mem.tail _ (List.Mem.tail _ (List.Mem.tail _ (List.Mem.head _)))))))
  have cb0 := H.cell (w3.heap.size) 0 (.int .i64 y2) (List.Mem.head _)
  have cb1 := H.cell (w3.heap.size) 1 (.int .i64 m2) (List.Mem.tail _ (List.Mem.head _))
  have cb2 := H.cell (w3.heap.size) 2 (.int .i64 31) (List.Mem.tail _ (List.Mem.tail _ (List.Mem.head _)))
  have lb := H.lt (w3.heap.size) 0 (.int .i64 y2) (List.Mem.head _)
  go_wp2_with fail
  clear ca0 ca1 ca2 la cb0 cb1 cb2 lb
  (with_reducible refine (rpart_any y1 m1 30 y2 m2 31 30 30 p q _ ⟨u1, u2⟩ ⟨v1, v2⟩ ⟨u3, u4⟩ ⟨v3, v4⟩ (by omega) (by omega) HP.out HQ.out).mono ?_)
  rintro e w6 ⟨rfl, hb⟩
  replace H := H.below hb
  clear hb
  have cz0 := H.cell (w.heap.size) 0 (.int .i64 0) (List.Mem.tail _ (List.Mem.tail _ (List.Mem.tail _ (List.Mem.tail _ (List.Mem.tail _ (List.Mem.tail _ (List.Mem.tail _ (List.Mem.tail _ (List.Mem.tail _ (List.Mem.tail _ (List.Mem.tail _ (List.Mem.tail _ (List.Mem.head _)))))))))))))
  have cz1 := H.cell (w.heap.size) 1 (.int .i64 0) (List.Mem.tail _ (List.Mem.tail _ (List.Mem.tail _ (List.Mem.tail _ (List.Mem.tail _ (List.Mem.tail _ (List.Mem.tail _ (List.Mem.tail _ (List.Mem.tail _ (List.Mem.tail _ (List.Mem.tail _ (List.Mem.tail _ (List.Mem.tail _ (List.Mem.head _))))))))))))))
  have lz := H.lt (w.heap.size) 0 (.int .i64 0) (List.Mem.tail _ (List.Mem.tail _ (List.Mem.tail _ (List.Mem.tail _ (List.Mem.tail _ (List.Mem.tail _ (List.Mem.tail _ (List.Mem.tail _ (List.Mem.tail _ (List.Mem.tail _ (List.Mem.tail _ (List.Mem.tail _ (List.Mem.head _)))))))))))))
  have fz0 := H.frozen (w.heap.size) 0 (List.Mem.tail _ (List.Mem.tail _ (List.Mem.tail _ (List.Mem.tail _ (List.Mem.tail _ (List.Mem.tail _ (List.Mem.tail _ (List.Mem.tail _ (List.Mem.tail _ (List.Mem.tail _ (List.Mem.tail _ (List.Mem.tail _ (List.Mem.tail _ (List.Mem.tail _ (List.Mem.head _)))))))))))))))
  have fz1 := H.frozen (w.heap.size) 1 (List.Mem.tail _ (List.Mem.tail _ (List.Mem.tail _ (List.Mem.tail _ (List.Mem.tail _ (List.Mem.tail _ (List.Mem.tail _ (List.Mem.tail _ (List.Mem.tail _ (List.Mem.tail _ (List.Mem.tail _ (List.Mem.tail _ (List.Mem.tail _ (List.Mem.tail _ (List.Mem.tail _ (List.Mem.head _))))))))))))))))
  have HK := H.old
  clear H
  go_wp2_with fail
  exact bodyPost_ret (v := .tuple #[.agg #[.int .i64 p, .int .i64 q], .int .i64 0]) (by simp [results, Tryz.results20, go_sem, cz0, cz1]) rfl ⟨rfl, (HK.setCell (by simp <;> omega) _).setCell (by simp <;> omega) _⟩

set_option maxHeartbeats 1000000 in
theorem rus_n30d2 (a b y1 m1 y2 m2 d2 p q : Int) (g1 : Bool) (g2 : Bool) (w : World) (h1 : may y1 m1 30) (ha : nb y1 m1 30 = a) (h2 : may y2 m2 d2) (hb : nb y2 m2 d2 = b) (hab : a ≤ b) (hf1 : febB y1 m1 30 = g1) (hf2 : febB y2 m2 d2 = g2) (n2 : d2 ≠ 31) (hp : rN (px y1 m1 30 y2 m2 d2) 360 = p) (hq : rD (px y1 m1 30 y2 m2 d2) 360 = q) :
    Calls Tryz.prog 20 #[.int .i64 a, .int .i64 b, .bool false] w fun e' w' => e' = .returned (.tuple #[.agg #[.int .i64 p, .int .i64 q], .int .i64 0]) ∧ Below w.heap.size w w' := by
  have H := Held.start w
  have b1 := nb_bd _ _ _ h1
  have b2 := nb_bd _ _ _ h2
  rw [ha] at b1
  rw [hb] at b2
  have W1 : Hid (WhyIs_ty a b 0) := Lib.hid (Or.inr (Or.inr ⟨b1, b2, hab, rfl⟩))
  have O1 : Hid (DayIs a y1 m1 30 0) := Lib.hid (Or.inl ⟨h1, ha, rfl⟩)
  have O2 : Hid (DayIs b y2 m2 d2 0) := Lib.hid (Or.inl ⟨h2, hb, rfl⟩)
  have l1 := ln_le y1 m1
  have l2 := ln_le y2 m2
  obtain ⟨u1, u2, u3, u4, u5, u6⟩ := h1
  obtain ⟨v1, v2, v3, v4, v5, v6⟩ := h2
  have w1 : 0 ≤ 30 ∧ 30 ≤ 31 := by omega
  have w2 : 0 ≤ d2 ∧ d2 ≤ 31 := by omega
  clear l1 l2
  have HP := Lib.hid hp
  have HQ := Lib.hid hq
  clear hp hq
  have F1 : Hid (∀ v, Calls Tryz.prog 37 #[.int .i64 a, .agg #[.int .i64 y1, .int .i64 m1, .int .i64 30]] v fun e w' => e = .returned (.bool g1) ∧ Below v.heap.size v w') := Lib.hid (fun v => rfeb_is a y1 m1 30 g1 v ⟨u1, u2, u3, u4, u5, u6⟩ ha hf1)
  have F2 : Hid (∀ v, Calls Tryz.prog 37 #[.int .i64 b, .agg #[.int .i64 y2, .int .i64 m2, .int .i64 d2]] v fun e w' => e = .returned (.bool g2) ∧ Below v.heap.size v w') := Lib.hid (fun v => rfeb_is b y2 m2 d2 g2 v ⟨v1, v2, v3, v4, v5, v6⟩ hb hf2)
  clear hf1 hf2
  have t2 : (d2 == 31) = false := beq_eq_false_iff_ne.2 n2
  clear ha hb hab u6 v6
  go_enter Tryz.func20, Tryz.ntmps20
  go_wp2_with fail
  replace H := (H.pair (w.heap.size) (.int .i64 0) (.int .i64 0) 29 rfl)
  (with_reducible refine (rwhy_any_ty a b 0 _ W1.out).mono ?_)
  rintro e w1 ⟨rfl, hb⟩
  replace H := H.below hb
  clear hb
  go_wp2_with fail
  (with_reducible refine (rof_any a y1 m1 30 0 _ O1.out).mono ?_)
  rintro e w2 ⟨rfl, hb⟩
  replace H := H.below hb
  clear hb
  go_wp2_with fail
  replace H := (H.triple (w2.heap.size) (.int .i64 y1) (.int .i64 m1) (.int .i64 30) 78 rfl)
  (with_reducible refine (rof_any b y2 m2 d2 0 _ O2.out).mono ?_)
  rintro e w3 ⟨rfl, hb⟩
  replace H := H.below hb
  clear hb
  have ca0 := H.cell (w2.heap.size) 0 (.int .i64 y1) (List.Mem.head _)
  have ca1 := H.cell (w2.heap.size) 1 (.int .i64 m1) (List.Mem.tail _ (List.Mem.head _))
  have ca2 := H.cell (w2.heap.size) 2 (.int .i64 30) (List.Mem.tail _ (List.Mem.tail _ (List.Mem.head _)))
  have la := H.lt (w2.heap.size) 0 (.int .i64 y1) (List.Mem.head _)
  go_wp2_with fail
  clear ca0 ca1 ca2 la
  replace H := (H.triple (w3.heap.size) (.int .i64 y2) (.int .i64 m2) (.int .i64 d2) 78 rfl)
  (with_reducible refine (F1.out _).mono ?_)
  rintro e w4 ⟨rfl, hb⟩
  replace H := H.below hb
  clear hb
  have ca0 := H.cell (w2.heap.size) 0 (.int .i64 y1) (List.Mem.tail _ (List.Mem.tail _ (List.Mem.tail _ (List.Mem.tail _ (List.Mem.tail _ (List.Mem.tail _ (List.Mem.head _)))))))
  have ca1 := H.cell (w2.heap.size) 1 (.int .i64 m1) (List.Mem.tail _ (List.Mem.tail _ (List.Mem.tail _ (List.Mem.tail _ (List.Mem.tail _ (List.Mem.tail _ (List.Mem.tail _ (List.Mem.head _))))))))
  have ca2 := H.cell (w2.heap.size) 2 (.int .i64 30) (List.Mem.tail _ (List.Mem.tail _ (List.Mem.tail _ (List.Mem.tail _ (List.Mem.tail _ (List.Mem.tail _ (List.Mem.tail _ (List.Mem.tail _ (List.Mem.head _)))))))))
  have la := H.lt (w2.heap.size) 0 (.int .i64 y1) (List.Mem.tail _ (List.Mem.tail _ (List.Mem.tail _ (List.Mem.tail _ (List.Mem.tail _ (List.Mem.tail _ (List.Mem.head _)))))))
  have cb0 := H.cell (w3.heap.size) 0 (.int .i64 y2) (List.Mem.head _)
  have cb1 := H.cell (w3.heap.size) 1 (.int .i64 m2) (List.Mem.tail _ (List.Mem.head _))
  have cb2 := H.cell (w3.heap.size) 2 (.int .i64 d2) (List.Mem.tail _ (List.Mem.tail _ (List.Mem.head _)))
  have lb := H.lt (w3.heap.size) 0 (.int .i64 y2) (List.Mem.head _)
  go_wp2_with fail
  clear ca0 ca1 ca2 la cb0 cb1 cb2 lb
  (with_reducible refine (F2.out _).mono ?_)
  rintro e w5 ⟨rfl, hb⟩
  replace H := H.below hb
  clear hb
  have ca0 := H.cell (w2.heap.size) 0 (.int .i64 y1) (List.Mem.tail _ (List.Mem.tail _ (List.Mem.tail _ (List.Mem.tail _ (List.Mem.tail _ (List.Mem.tail _ (List.Mem.head _)))))))
  have ca1 := H.cell (w2.heap.size) 1 (.int .i64 m1) (List.Mem.tail _ (List.Mem.tail _ (List.Mem.tail _ (List.Mem.tail _ (List.Mem.tail _ (List.Mem.tail _ (List.Mem.tail _ (List.Mem.head _))))))))
  have ca2 := H.cell (w2.heap.size) 2 (.int .i64 30) (List.Mem.tail _ (List.Mem.tail _ (List.Mem.tail _ (List.Mem.tail _ (List.Mem.tail _ (List.Mem.tail _ (List.Mem.tail _ (List.Mem.tail _ (List.Mem.head _)))))))))
  have la := H.lt (w2.heap.size) 0 (.int .i64 y1) (List.Mem.tail _ (List.Mem.tail _ (List.Mem.tail _ (List.Mem.tail _ (List.Mem.tail _ (List.Mem.tail _ (List.Mem.head _)))))))
  have cb0 := H.cell (w3.heap.size) 0 (.int .i64 y2) (List.Mem.head _)
  have cb1 := H.cell (w3.heap.size) 1 (.int .i64 m2) (List.Mem.tail _ (List.Mem.head _))
  have cb2 := H.cell (w3.heap.size) 2 (.int .i64 d2) (List.Mem.tail _ (List.Mem.tail _ (List.Mem.head _)))
  have lb := H.lt (w3.heap.size) 0 (.int .i64 y2) (List.Mem.head _)
  go_wp2_with fail
  clear ca0 ca1 ca2 la cb0 cb1 cb2 lb
  (with_reducible refine (rpart_any y1 m1 30 y2 m2 d2 30 d2 p q _ ⟨u1, u2⟩ ⟨v1, v2⟩ ⟨u3, u4⟩ ⟨v3, v4⟩ (by omega) (by omega) HP.out HQ.out).mono ?_)
  rintro e w6 ⟨rfl, hb⟩
  replace H := H.below hb
  clear hb
  have cz0 := H.cell (w.heap.size) 0 (.int .i64 0) (List.Mem.tail _ (List.Mem.tail _ (List.Mem.tail _ (List.Mem.tail _ (List.Mem.tail _ (List.Mem.tail _ (List.Mem.tail _ (List.Mem.tail _ (List.Mem.tail _ (List.Mem.tail _ (List.Mem.tail _ (List.Mem.tail _ (List.Mem.head _)))))))))))))
  have cz1 := H.cell (w.heap.size) 1 (.int .i64 0) (List.Mem.tail _ (List.Mem.tail _ (List.Mem.tail _ (List.Mem.tail _ (List.Mem.tail _ (List.Mem.tail _ (List.Mem.tail _ (List.Mem.tail _ (List.Mem.tail _ (List.Mem.tail _ (List.Mem.tail _ (List.Mem.tail _ (List.Mem.tail _ (List.Mem.head _))))))))))))))
  have lz := H.lt (w.heap.size) 0 (.int .i64 0) (List.Mem.tail _ (List.Mem.tail _ (List.Mem.tail _ (List.Mem.tail _ (List.Mem.tail _ (List.Mem.tail _ (List.Mem.tail _ (List.Mem.tail _ (List.Mem.tail _ (List.Mem.tail _ (List.Mem.tail _ (List.Mem.tail _ (List.Mem.head _)))))))))))))
  have fz0 := H.frozen (w.heap.size) 0 (List.Mem.tail _ (List.Mem.tail _ (List.Mem.tail _ (List.Mem.tail _ (List.Mem.tail _ (List.Mem.tail _ (List.Mem.tail _ (List.Mem.tail _ (List.Mem.tail _ (List.Mem.tail _ (List.Mem.tail _ (List.Mem.tail _ (List.Mem.tail _ (List.Mem.tail _ (List.Mem.head _)))))))))))))))
  have fz1 := H.frozen (w.heap.size) 1 (List.Mem.tail _ (List.Mem.tail _ (List.Mem.tail _ (List.Mem.tail _ (List.Mem.tail _ (List.Mem.tail _ (List.Mem.tail _ (List.Mem.tail _ (List.Mem.tail _ (List.Mem.tail _ (List.Mem.tail _ (List.Mem.tail _ (List.Mem.tail _ (List.Mem.tail _ (List.Mem.tail _ (List.Mem.head _))))))))))))))))
  have HK := H.old
  clear H
  go_wp2_with fail
  exact bodyPost_ret (v := .tuple #[.agg #[.int .i64 p, .int .i64 q], .int .i64 0]) (by simp [results, Tryz.results20, go_sem, cz0, cz1]) rfl ⟨rfl, (HK.setCell (by simp <;> omega) _).setCell (by simp <;> omega) _⟩

set_option maxHeartbeats 1000000 in
theorem rus_nd131 (a b y1 m1 d1 y2 m2 p q : Int) (g1 : Bool) (g2 : Bool) (w : World) (h1 : may y1 m1 d1) (ha : nb y1 m1 d1 = a) (h2 : may y2 m2 31) (hb : nb y2 m2 31 = b) (hab : a ≤ b) (hf1 : febB y1 m1 d1 = g1) (hf2 : febB y2 m2 31 = g2) (n1 : d1 ≠ 31) (n3 : d1 ≠ 30) (hp : rN (px y1 m1 d1 y2 m2 31) 360 = p) (hq : rD (px y1 m1 d1 y2 m2 31) 360 = q) :
    Calls Tryz.prog 20 #[.int .i64 a, .int .i64 b, .bool false] w fun e' w' => e' = .returned (.tuple #[.agg #[.int .i64 p, .int .i64 q], .int .i64 0]) ∧ Below w.heap.size w w' := by
  have H := Held.start w
  have b1 := nb_bd _ _ _ h1
  have b2 := nb_bd _ _ _ h2
  rw [ha] at b1
  rw [hb] at b2
  have W1 : Hid (WhyIs_ty a b 0) := Lib.hid (Or.inr (Or.inr ⟨b1, b2, hab, rfl⟩))
  have O1 : Hid (DayIs a y1 m1 d1 0) := Lib.hid (Or.inl ⟨h1, ha, rfl⟩)
  have O2 : Hid (DayIs b y2 m2 31 0) := Lib.hid (Or.inl ⟨h2, hb, rfl⟩)
  have l1 := ln_le y1 m1
  have l2 := ln_le y2 m2
  obtain ⟨u1, u2, u3, u4, u5, u6⟩ := h1
  obtain ⟨v1, v2, v3, v4, v5, v6⟩ := h2
  have w1 : 0 ≤ d1 ∧ d1 ≤ 31 := by omega
  have w2 : 0 ≤ 31 ∧ 31 ≤ 31 := by omega
  clear l1 l2
  have HP := Lib.hid hp
  have HQ := Lib.hid hq
  clear hp hq
  have F1 : Hid (∀ v, Calls Tryz.prog 37 #[.int .i64 a, .agg #[.int .i64 y1, .int .i64 m1, .int .i64 d1]] v fun e w' => e = .returned (.bool g1) ∧ Below v.heap.size v w') := Lib.hid (fun v => rfeb_is a y1 m1 d1 g1 v ⟨u1, u2, u3, u4, u5, u6⟩ ha hf1)
  have F2 : Hid (∀ v, Calls Tryz.prog 37 #[.int .i64 b, .agg #[.int .i64 y2, .int .i64 m2, .int .i64 31]] v fun e w' => e = .returned (.bool g2) ∧ Below v.heap.size v w') := Lib.hid (fun v => rfeb_is b y2 m2 31 g2 v ⟨v1, v2, v3, v4, v5, v6⟩ hb hf2)
  clear hf1 hf2
  have t1 : (d1 == 31) = false := beq_eq_false_iff_ne.2 n1
  have t3 : (d1 == 30) = false := beq_eq_false_iff_ne.2 n3
  clear ha hb hab u6 v6
  go_enter Tryz.func20, Tryz.ntmps20
  go_wp2_with fail
  replace H := (H.pair (w.heap.size) (.int .i64 0) (.int .i64 0) 29 rfl)
  (with_reducible refine (rwhy_any_ty a b 0 _ W1.out).mono ?_)
  rintro e w1 ⟨rfl, hb⟩
  replace H := H.below hb
  clear hb
  go_wp2_with fail
  (with_reducible refine (rof_any a y1 m1 d1 0 _ O1.out).mono ?_)
  rintro e w2 ⟨rfl, hb⟩
  replace H := H.below hb
  clear hb
  go_wp2_with fail
  replace H := (H.triple (w2.heap.size) (.int .i64 y1) (.int .i64 m1) (.int .i64 d1) 78 rfl)
  (with_reducible refine (rof_any b y2 m2 31 0 _ O2.out).mono ?_)
  rintro e w3 ⟨rfl, hb⟩
  replace H := H.below hb
  clear hb
  have ca0 := H.cell (w2.heap.size) 0 (.int .i64 y1) (List.Mem.head _)
  have ca1 := H.cell (w2.heap.size) 1 (.int .i64 m1) (List.Mem.tail _ (List.Mem.head _))
  have ca2 := H.cell (w2.heap.size) 2 (.int .i64 d1) (List.Mem.tail _ (List.Mem.tail _ (List.Mem.head _)))
  have la := H.lt (w2.heap.size) 0 (.int .i64 y1) (List.Mem.head _)
  go_wp2_with fail
  clear ca0 ca1 ca2 la
  replace H := (H.triple (w3.heap.size) (.int .i64 y2) (.int .i64 m2) (.int .i64 31) 78 rfl)
  (with_reducible refine (F1.out _).mono ?_)
  rintro e w4 ⟨rfl, hb⟩
  replace H := H.below hb
  clear hb
  have ca0 := H.cell (w2.heap.size) 0 (.int .i64 y1) (List.Mem.tail _ (List.Mem.tail _ (List.Mem.tail _ (List.Mem.tail _ (List.Mem.tail _ (List.Mem.tail _ (List.Mem.head _)))))))
  have ca1 := H.cell (w2.heap.size) 1 (.int .i64 m1) (List.Mem.tail _ (List.Mem.tail _ (List.Mem.tail _ (List.Mem.tail _ (List.Mem.tail _ (List.Mem.tail _ (List.Mem.tail _ (List.Mem.head _))))))))
  have ca2 := H.cell (w2.heap.size) 2 (.int .i64 d1) (List.Mem.tail _ (List.Mem.tail _ (List.Mem.tail _ (List.Mem.tail _ (List.Mem.tail _ (List.Mem.tail _ (List.Mem.tail _ (List.Mem.tail _ (List.Mem.head _)))))))))
  have la := H.lt (w2.heap.size) 0 (.int .i64 y1) (List.Mem.tail _ (List.Mem.tail _ (List.Mem.tail _ (List.Mem.tail _ (List.Mem.tail _ (List.Mem.tail _ (List.Mem.head _)))))))
  have cb0 := H.cell (w3.heap.size) 0 (.int .i64 y2) (List.Mem.head _)
  have cb1 := H.cell (w3.heap.size) 1 (.int .i64 m2) (List.Mem.tail _ (List.Mem.head _))
  have cb2 := H.cell (w3.heap.size) 2 (.int .i64 31) (List.Mem.tail _ (List.Mem.tail _ (List.Mem.head _)))
  have lb := H.lt (w3.heap.size) 0 (.int .i64 y2) (List.Mem.head _)
  go_wp2_with fail
  clear ca0 ca1 ca2 la cb0 cb1 cb2 lb
  (with_reducible refine (F2.out _).mono ?_)
  rintro e w5 ⟨rfl, hb⟩
  replace H := H.below hb
  clear hb
  have ca0 := H.cell (w2.heap.size) 0 (.int .i64 y1) (List.Mem.tail _ (List.Mem.tail _ (List.Mem.tail _ (List.Mem.tail _ (List.Mem.tail _ (List.Mem.tail _ (List.Mem.head _)))))))
  have ca1 := H.cell (w2.heap.size) 1 (.int .i64 m1) (List.Mem.tail _ (List.Mem.tail _ (List.Mem.tail _ (List.Mem.tail _ (List.Mem.tail _ (List.Mem.tail _ (List.Mem.tail _ (List.Mem.head _))))))))
  have ca2 := H.cell (w2.heap.size) 2 (.int .i64 d1) (List.Mem.tail _ (List.Mem.tail _ (List.Mem.tail _ (List.Mem.tail _ (List.Mem.tail _ (List.Mem.tail _ (List.Mem.tail _ (List.Mem.tail _ (List.Mem.head _)))))))))
  have la := H.lt (w2.heap.size) 0 (.int .i64 y1) (List.Mem.tail _ (List.Mem.tail _ (List.Mem.tail _ (List.Mem.tail _ (List.Mem.tail _ (List.Mem.tail _ (List.Mem.head _)))))))
  have cb0 := H.cell (w3.heap.size) 0 (.int .i64 y2) (List.Mem.head _)
  have cb1 := H.cell (w3.heap.size) 1 (.int .i64 m2) (List.Mem.tail _ (List.Mem.head _))
  have cb2 := H.cell (w3.heap.size) 2 (.int .i64 31) (List.Mem.tail _ (List.Mem.tail _ (List.Mem.head _)))
  have lb := H.lt (w3.heap.size) 0 (.int .i64 y2) (List.Mem.head _)
  go_wp2_with fail
  clear ca0 ca1 ca2 la cb0 cb1 cb2 lb
  (with_reducible refine (rpart_any y1 m1 d1 y2 m2 31 d1 31 p q _ ⟨u1, u2⟩ ⟨v1, v2⟩ ⟨u3, u4⟩ ⟨v3, v4⟩ (by omega) (by omega) HP.out HQ.out).mono ?_)
  rintro e w6 ⟨rfl, hb⟩
  replace H := H.below hb
  clear hb
  have cz0 := H.cell (w.heap.size) 0 (.int .i64 0) (List.Mem.tail _ (List.Mem.tail _ (List.Mem.tail _ (List.Mem.tail _ (List.Mem.tail _ (List.Mem.tail _ (List.Mem.tail _ (List.Mem.tail _ (List.Mem.tail _ (List.Mem.tail _ (List.Mem.tail _ (List.Mem.tail _ (List.Mem.head _)))))))))))))
  have cz1 := H.cell (w.heap.size) 1 (.int .i64 0) (List.Mem.tail _ (List.Mem.tail _ (List.Mem.tail _ (List.Mem.tail _ (List.Mem.tail _ (List.Mem.tail _ (List.Mem.tail _ (List.Mem.tail _ (List.Mem.tail _ (List.Mem.tail _ (List.Mem.tail _ (List.Mem.tail _ (List.Mem.tail _ (List.Mem.head _))))))))))))))
  have lz := H.lt (w.heap.size) 0 (.int .i64 0) (List.Mem.tail _ (List.Mem.tail _ (List.Mem.tail _ (List.Mem.tail _ (List.Mem.tail _ (List.Mem.tail _ (List.Mem.tail _ (List.Mem.tail _ (List.Mem.tail _ (List.Mem.tail _ (List.Mem.tail _ (List.Mem.tail _ (List.Mem.head _)))))))))))))
  have fz0 := H.frozen (w.heap.size) 0 (List.Mem.tail _ (List.Mem.tail _ (List.Mem.tail _ (List.Mem.tail _ (List.Mem.tail _ (List.Mem.tail _ (List.Mem.tail _ (List.Mem.tail _ (List.Mem.tail _ (List.Mem.tail _ (List.Mem.tail _ (List.Mem.tail _ (List.Mem.tail _ (List.Mem.tail _ (List.Mem.head _)))))))))))))))
  have fz1 := H.frozen (w.heap.size) 1 (List.Mem.tail _ (List.Mem.tail _ (List.Mem.tail _ (List.Mem.tail _ (List.Mem.tail _ (List.Mem.tail _ (List.Mem.tail _ (List.Mem.tail _ (List.Mem.tail _ (List.Mem.tail _ (List.Mem.tail _ (List.Mem.tail _ (List.Mem.tail _ (List.Mem.tail _ (List.Mem.tail _ (List.Mem.head _))))))))))))))))
  have HK := H.old
  clear H
  go_wp2_with fail
  exact bodyPost_ret (v := .tuple #[.agg #[.int .i64 p, .int .i64 q], .int .i64 0]) (by simp [results, Tryz.results20, go_sem, cz0, cz1]) rfl ⟨rfl, (HK.setCell (by simp <;> omega) _).setCell (by simp <;> omega) _⟩

set_option maxHeartbeats 1000000 in
theorem rus_nd1d2 (a b y1 m1 d1 y2 m2 d2 p q : Int) (g1 : Bool) (g2 : Bool) (w : World) (h1 : may y1 m1 d1) (ha : nb y1 m1 d1 = a) (h2 : may y2 m2 d2) (hb : nb y2 m2 d2 = b) (hab : a ≤ b) (hf1 : febB y1 m1 d1 = g1) (hf2 : febB y2 m2 d2 = g2) (n1 : d1 ≠ 31) (n3 : d1 ≠ 30) (n2 : d2 ≠ 31) (hp : rN (px y1 m1 d1 y2 m2 d2) 360 = p) (hq : rD (px y1 m1 d1 y2 m2 d2) 360 = q) :
    Calls Tryz.prog 20 #[.int .i64 a, .int .i64 b, .bool false] w fun e' w' => e' = .returned (.tuple #[.agg #[.int .i64 p, .int .i64 q], .int .i64 0]) ∧ Below w.heap.size w w' := by
  have H := Held.start w
  have b1 := nb_bd _ _ _ h1
  have b2 := nb_bd _ _ _ h2
  rw [ha] at b1
  rw [hb] at b2
  have W1 : Hid (WhyIs_ty a b 0) := Lib.hid (Or.inr (Or.inr ⟨b1, b2, hab, rfl⟩))
  have O1 : Hid (DayIs a y1 m1 d1 0) := Lib.hid (Or.inl ⟨h1, ha, rfl⟩)
  have O2 : Hid (DayIs b y2 m2 d2 0) := Lib.hid (Or.inl ⟨h2, hb, rfl⟩)
  have l1 := ln_le y1 m1
  have l2 := ln_le y2 m2
  obtain ⟨u1, u2, u3, u4, u5, u6⟩ := h1
  obtain ⟨v1, v2, v3, v4, v5, v6⟩ := h2
  have w1 : 0 ≤ d1 ∧ d1 ≤ 31 := by omega
  have w2 : 0 ≤ d2 ∧ d2 ≤ 31 := by omega
  clear l1 l2
  have HP := Lib.hid hp
  have HQ := Lib.hid hq
  clear hp hq
  have F1 : Hid (∀ v, Calls Tryz.prog 37 #[.int .i64 a, .agg #[.int .i64 y1, .int .i64 m1, .int .i64 d1]] v fun e w' => e = .returned (.bool g1) ∧ Below v.heap.size v w') := Lib.hid (fun v => rfeb_is a y1 m1 d1 g1 v ⟨u1, u2, u3, u4, u5, u6⟩ ha hf1)
  have F2 : Hid (∀ v, Calls Tryz.prog 37 #[.int .i64 b, .agg #[.int .i64 y2, .int .i64 m2, .int .i64 d2]] v fun e w' => e = .returned (.bool g2) ∧ Below v.heap.size v w') := Lib.hid (fun v => rfeb_is b y2 m2 d2 g2 v ⟨v1, v2, v3, v4, v5, v6⟩ hb hf2)
  clear hf1 hf2
  have t1 : (d1 == 31) = false := beq_eq_false_iff_ne.2 n1
  have t3 : (d1 == 30) = false := beq_eq_false_iff_ne.2 n3
  have t2 : (d2 == 31) = false := beq_eq_false_iff_ne.2 n2
  clear ha hb hab u6 v6
  go_enter Tryz.func20, Tryz.ntmps20
  go_wp2_with fail
  replace H := (H.pair (w.heap.size) (.int .i64 0) (.int .i64 0) 29 rfl)
  (with_reducible refine (rwhy_any_ty a b 0 _ W1.out).mono ?_)
  rintro e w1 ⟨rfl, hb⟩
  replace H := H.below hb
  clear hb
  go_wp2_with fail
  (with_reducible refine (rof_any a y1 m1 d1 0 _ O1.out).mono ?_)
  rintro e w2 ⟨rfl, hb⟩
  replace H := H.below hb
  clear hb
  go_wp2_with fail
  replace H := (H.triple (w2.heap.size) (.int .i64 y1) (.int .i64 m1) (.int .i64 d1) 78 rfl)
  (with_reducible refine (rof_any b y2 m2 d2 0 _ O2.out).mono ?_)
  rintro e w3 ⟨rfl, hb⟩
  replace H := H.below hb
  clear hb
  have ca0 := H.cell (w2.heap.size) 0 (.int .i64 y1) (List.Mem.head _)
  have ca1 := H.cell (w2.heap.size) 1 (.int .i64 m1) (List.Mem.tail _ (List.Mem.head _))
  have ca2 := H.cell (w2.heap.size) 2 (.int .i64 d1) (List.Mem.tail _ (List.Mem.tail _ (List.Mem.head _)))
  have la := H.lt (w2.heap.size) 0 (.int .i64 y1) (List.Mem.head _)
  go_wp2_with fail
  clear ca0 ca1 ca2 la
  replace H := (H.triple (w3.heap.size) (.int .i64 y2) (.int .i64 m2) (.int .i64 d2) 78 rfl)
  (with_reducible refine (F1.out _).mono ?_)
  rintro e w4 ⟨rfl, hb⟩
  replace H := H.below hb
  clear hb
  have ca0 := H.cell (w2.heap.size) 0 (.int .i64 y1) (List.Mem.tail _ (List.Mem.tail _ (List.Mem.tail _ (List.Mem.tail _ (List.Mem.tail _ (List.Mem.tail _ (List.Mem.head _)))))))
  have ca1 := H.cell (w2.heap.size) 1 (.int .i64 m1) (List.Mem.tail _ (List.Mem.tail _ (List.Mem.tail _ (List.Mem.tail _ (List.Mem.tail _ (List.Mem.tail _ (List.Mem.tail _ (List.Mem.head _))))))))
  have ca2 := H.cell (w2.heap.size) 2 (.int .i64 d1) (List.Mem.tail _ (List.Mem.tail _ (List.Mem.tail _ (List.Mem.tail _ (List.Mem.tail _ (List.Mem.tail _ (List.Mem.tail _ (List.Mem.tail _ (List.Mem.head _)))))))))
  have la := H.lt (w2.heap.size) 0 (.int .i64 y1) (List.Mem.tail _ (List.Mem.tail _ (List.Mem.tail _ (List.Mem.tail _ (List.Mem.tail _ (List.Mem.tail _ (List.Mem.head _)))))))
  have cb0 := H.cell (w3.heap.size) 0 (.int .i64 y2) (List.Mem.head _)
  have cb1 := H.cell (w3.heap.size) 1 (.int .i64 m2) (List.Mem.tail _ (List.Mem.head _))
  have cb2 := H.cell (w3.heap.size) 2 (.int .i64 d2) (List.Mem.tail _ (List.Mem.tail _ (List.Mem.head _)))
  have lb := H.lt (w3.heap.size) 0 (.int .i64 y2) (List.Mem.head _)
  go_wp2_with fail
  clear ca0 ca1 ca2 la cb0 cb1 cb2 lb
  (with_reducible refine (F2.out _).mono ?_)
  rintro e w5 ⟨rfl, hb⟩
  replace H := H.below hb
  clear hb
  have ca0 := H.cell (w2.heap.size) 0 (.int .i64 y1) (List.Mem.tail _ (List.Mem.tail _ (List.Mem.tail _ (List.Mem.tail _ (List.Mem.tail _ (List.Mem.tail _ (List.Mem.head _)))))))
  have ca1 := H.cell (w2.heap.size) 1 (.int .i64 m1) (List.Mem.tail _ (List.Mem.tail _ (List.Mem.tail _ (List.Mem.tail _ (List.Mem.tail _ (List.Mem.tail _ (List.Mem.tail _ (List.Mem.head _))))))))
  have ca2 := H.cell (w2.heap.size) 2 (.int .i64 d1) (List.Mem.tail _ (List.Mem.tail _ (List.Mem.tail _ (List.Mem.tail _ (List.Mem.tail _ (List.Mem.tail _ (List.Mem.tail _ (List.Mem.tail _ (List.Mem.head _)))))))))
  have la := H.lt (w2.heap.size) 0 (.int .i64 y1) (List.Mem.tail _ (List.Mem.tail _ (List.Mem.tail _ (List.Mem.tail _ (List.Mem.tail _ (List.Mem.tail _ (List.Mem.head _)))))))
  have cb0 := H.cell (w3.heap.size) 0 (.int .i64 y2) (List.Mem.head _)
  have cb1 := H.cell (w3.heap.size) 1 (.int .i64 m2) (List.Mem.tail _ (List.Mem.head _))
  have cb2 := H.cell (w3.heap.size) 2 (.int .i64 d2) (List.Mem.tail _ (List.Mem.tail _ (List.Mem.head _)))
  have lb := H.lt (w3.heap.size) 0 (.int .i64 y2) (List.Mem.head _)
  go_wp2_with fail
  clear ca0 ca1 ca2 la cb0 cb1 cb2 lb
  (with_reducible refine (rpart_any y1 m1 d1 y2 m2 d2 d1 d2 p q _ ⟨u1, u2⟩ ⟨v1, v2⟩ ⟨u3, u4⟩ ⟨v3, v4⟩ (by omega) (by omega) HP.out HQ.out).mono ?_)
  rintro e w6 ⟨rfl, hb⟩
  replace H := H.below hb
  clear hb
  have cz0 := H.cell (w.heap.size) 0 (.int .i64 0) (List.Mem.tail _ (List.Mem.tail _ (List.Mem.tail _ (List.Mem.tail _ (List.Mem.tail _ (List.Mem.tail _ (List.Mem.tail _ (List.Mem.tail _ (List.Mem.tail _ (List.Mem.tail _ (List.Mem.tail _ (List.Mem.tail _ (List.Mem.head _)))))))))))))
  have cz1 := H.cell (w.heap.size) 1 (.int .i64 0) (List.Mem.tail _ (List.Mem.tail _ (List.Mem.tail _ (List.Mem.tail _ (List.Mem.tail _ (List.Mem.tail _ (List.Mem.tail _ (List.Mem.tail _ (List.Mem.tail _ (List.Mem.tail _ (List.Mem.tail _ (List.Mem.tail _ (List.Mem.tail _ (List.Mem.head _))))))))))))))
  have lz := H.lt (w.heap.size) 0 (.int .i64 0) (List.Mem.tail _ (List.Mem.tail _ (List.Mem.tail _ (List.Mem.tail _ (List.Mem.tail _ (List.Mem.tail _ (List.Mem.tail _ (List.Mem.tail _ (List.Mem.tail _ (List.Mem.tail _ (List.Mem.tail _ (List.Mem.tail _ (List.Mem.head _)))))))))))))
  have fz0 := H.frozen (w.heap.size) 0 (List.Mem.tail _ (List.Mem.tail _ (List.Mem.tail _ (List.Mem.tail _ (List.Mem.tail _ (List.Mem.tail _ (List.Mem.tail _ (List.Mem.tail _ (List.Mem.tail _ (List.Mem.tail _ (List.Mem.tail _ (List.Mem.tail _ (List.Mem.tail _ (List.Mem.tail _ (List.Mem.head _)))))))))))))))
  have fz1 := H.frozen (w.heap.size) 1 (List.Mem.tail _ (List.Mem.tail _ (List.Mem.tail _ (List.Mem.tail _ (List.Mem.tail _ (List.Mem.tail _ (List.Mem.tail _ (List.Mem.tail _ (List.Mem.tail _ (List.Mem.tail _ (List.Mem.tail _ (List.Mem.tail _ (List.Mem.tail _ (List.Mem.tail _ (List.Mem.tail _ (List.Mem.head _))))))))))))))))
  have HK := H.old
  clear H
  go_wp2_with fail
  exact bodyPost_ret (v := .tuple #[.agg #[.int .i64 p, .int .i64 q], .int .i64 0]) (by simp [results, Tryz.results20, go_sem, cz0, cz1]) rfl ⟨rfl, (HK.setCell (by simp <;> omega) _).setCell (by simp <;> omega) _⟩

set_option maxHeartbeats 1000000 in
theorem rus_m3131 (a b y1 m1 y2 m2 p q : Int) (g2 : Bool) (w : World) (h1 : may y1 m1 31) (ha : nb y1 m1 31 = a) (h2 : may y2 m2 31) (hb : nb y2 m2 31 = b) (hab : a ≤ b) (hf1 : febB y1 m1 31 = false) (hf2 : febB y2 m2 31 = g2) (hp : rN (px y1 m1 30 y2 m2 30) 360 = p) (hq : rD (px y1 m1 30 y2 m2 30) 360 = q) :
    Calls Tryz.prog 20 #[.int .i64 a, .int .i64 b, .bool true] w fun e' w' => e' = .returned (.tuple #[.agg #[.int .i64 p, .int .i64 q], .int .i64 0]) ∧ Below w.heap.size w w' := by
  have H := Held.start w
  have b1 := nb_bd _ _ _ h1
  have b2 := nb_bd _ _ _ h2
  rw [ha] at b1
  rw [hb] at b2
  have W1 : Hid (WhyIs_ty a b 0) := Lib.hid (Or.inr (Or.inr ⟨b1, b2, hab, rfl⟩))
  have O1 : Hid (DayIs a y1 m1 31 0) := Lib.hid (Or.inl ⟨h1, ha, rfl⟩)
  have O2 : Hid (DayIs b y2 m2 31 0) := Lib.hid (Or.inl ⟨h2, hb, rfl⟩)
  have l1 := ln_le y1 m1
  have l2 := ln_le y2 m2
  obtain ⟨u1, u2, u3, u4, u5, u6⟩ := h1
  obtain ⟨v1, v2, v3, v4, v5, v6⟩ := h2
  have w1 : 0 ≤ 31 ∧ 31 ≤ 31 := by omega
  have w2 : 0 ≤ 31 ∧ 31 ≤ 31 := by omega
  clear l1 l2
  have HP := Lib.hid hp
  have HQ := Lib.hid hq
  clear hp hq
  have F1 : Hid (∀ v, Calls Tryz.prog 37 #[.int .i64 a, .agg #[.int .i64 y1, .int .i64 m1, .int .i64 31]] v fun e w' => e = .returned (.bool false) ∧ Below v.heap.size v w') := Lib.hid (fun v => rfeb_is a y1 m1 31 false v ⟨u1, u2, u3, u4, u5, u6⟩ ha hf1)
  have F2 : Hid (∀ v, Calls Tryz.prog 37 #[.int .i64 b, .agg #[.int .i64 y2, .int .i64 m2, .int .i64 31]] v fun e w' => e = .returned (.bool g2) ∧ Below v.heap.size v w') := Lib.hid (fun v => rfeb_is b y2 m2 31 g2 v ⟨v1, v2, v3, v4, v5, v6⟩ hb hf2)
  clear hf1 hf2
  clear ha hb hab u6 v6
  go_enter Tryz.func20, Tryz.ntmps20
  go_wp2_with fail
  replace H := (H.pair (w.heap.size) (.int .i64 0) (.int .i64 0) 29 rfl)
  (with_reducible refine (rwhy_any_ty a b 0 _ W1.out).mono ?_)
  rintro e w1 ⟨rfl, hb⟩
  replace H := H.below hb
  clear hb
  go_wp2_with fail
  (with_reducible refine (rof_any a y1 m1 31 0 _ O1.out).mono ?_)
  rintro e w2 ⟨rfl, hb⟩
  replace H := H.below hb
  clear hb
  go_wp2_with fail
  replace H := (H.triple (w2.heap.size) (.int .i64 y1) (.int .i64 m1) (.int .i64 31) 78 rfl)
  (with_reducible refine (rof_any b y2 m2 31 0 _ O2.out).mono ?_)
  rintro e w3 ⟨rfl, hb⟩
  replace H := H.below hb
  clear hb
  have ca0 := H.cell (w2.heap.size) 0 (.int .i64 y1) (List.Mem.head _)
  have ca1 := H.cell (w2.heap.size) 1 (.int .i64 m1) (List.Mem.tail _ (List.Mem.head _))
  have ca2 := H.cell (w2.heap.size) 2 (.int .i64 31) (List.Mem.tail _ (List.Mem.tail _ (List.Mem.head _)))
  have la := H.lt (w2.heap.size) 0 (.int .i64 y1) (List.Mem.head _)
  go_wp2_with fail
  clear ca0 ca1 ca2 la
  replace H := (H.triple (w3.heap.size) (.int .i64 y2) (.int .i64 m2) (.int .i64 31) 78 rfl)
  (with_reducible refine (F1.out _).mono ?_)
  rintro e w4 ⟨rfl, hb⟩
  replace H := H.below hb
  clear hb
  have ca0 := H.cell (w2.heap.size) 0 (.int .i64 y1) (List.Mem.tail _ (List.Mem.tail _ (List.Mem.tail _ (List.Mem.tail _ (List.Mem.tail _ (List.Mem.tail _ (List.Mem.head _)))))))
  have ca1 := H.cell (w2.heap.size) 1 (.int .i64 m1) (List.Mem.tail _ (List.Mem.tail _ (List.Mem.tail _ (List.Mem.tail _ (List.Mem.tail _ (List.Mem.tail _ (List.Mem.tail _ (List.Mem.head _))))))))
  have ca2 := H.cell (w2.heap.size) 2 (.int .i64 31) (List.Mem.tail _ (List.Mem.tail _ (List.Mem.tail _ (List.Mem.tail _ (List.Mem.tail _ (List.Mem.tail _ (List.Mem.tail _ (List.Mem.tail _ (List.Mem.head _)))))))))
  have la := H.lt (w2.heap.size) 0 (.int .i64 y1) (List.Mem.tail _ (List.Mem.tail _ (List.Mem.tail _ (List.Mem.tail _ (List.Mem.tail _ (List.Mem.tail _ (List.Mem.head _)))))))
  have cb0 := H.cell (w3.heap.size) 0 (.int .i64 y2) (List.Mem.head _)
  have cb1 := H.cell (w3.heap.size) 1 (.int .i64 m2) (List.Mem.tail _ (List.Mem.head _))
  have cb2 := H.cell (w3.heap.size) 2 (.int .i64 31) (List.Mem.tail _ (List.Mem.tail _ (List.Mem.head _)))
  have lb := H.lt (w3.heap.size) 0 (.int .i64 y2) (List.Mem.head _)
  go_wp2_with fail
  clear ca0 ca1 ca2 la cb0 cb1 cb2 lb
  (with_reducible refine (F2.out _).mono ?_)
  rintro e w5 ⟨rfl, hb⟩
  replace H := H.below hb
  clear hb
  have ca0 := H.cell (w2.heap.size) 0 (.int .i64 y1) (List.Mem.tail _ (List.Mem.tail _ (List.Mem.tail _ (List.Mem.tail _ (List.Mem.tail _ (List.Mem.tail _ (List.Mem.head _)))))))
  have ca1 := H.cell (w2.heap.size) 1 (.int .i64 m1) (List.Mem.tail _ (List.Mem.tail _ (List.Mem.tail _ (List.Mem.tail _ (List.Mem.tail _ (List.Mem.tail _ (List.Mem.tail _ (List.Mem.head _))))))))
  have ca2 := H.cell (w2.heap.size) 2 (.int .i64 31) (List.Mem.tail _ (List.Mem.tail _ (List.Mem.tail _ (List.Mem.tail _ (List.Mem.tail _ (List.Mem.tail _ (List.Mem.tail _ (List.Mem.tail _ (List.Mem.head _)))))))))
  have la := H.lt (w2.heap.size) 0 (.int .i64 y1) (List.Mem.tail _ (List.Mem.tail _ (List.Mem.tail _ (List.Mem.tail _ (List.Mem.tail _ (List.Mem.tail _ (List.Mem.head _)))))))
  have cb0 := H.cell (w3.heap.size) 0 (.int .i64 y2) (List.Mem.head _)
  have cb1 := H.cell (w3.heap.size) 1 (.int .i64 m2) (List.Mem.tail _ (List.Mem.head _))
  have cb2 := H.cell (w3.heap.size) 2 (.int .i64 31) (List.Mem.tail _ (List.Mem.tail _ (List.Mem.head _)))
  have lb := H.lt (w3.heap.size) 0 (.int .i64 y2) (List.Mem.head _)
  go_wp2_with fail
  clear ca0 ca1 ca2 la cb0 cb1 cb2 lb
  (with_reducible refine (rpart_any y1 m1 31 y2 m2 31 30 30 p q _ ⟨u1, u2⟩ ⟨v1, v2⟩ ⟨u3, u4⟩ ⟨v3, v4⟩ (by omega) (by omega) HP.out HQ.out).mono ?_)
  rintro e w6 ⟨rfl, hb⟩
  replace H := H.below hb
  clear hb
  have cz0 := H.cell (w.heap.size) 0 (.int .i64 0) (List.Mem.tail _ (List.Mem.tail _ (List.Mem.tail _ (List.Mem.tail _ (List.Mem.tail _ (List.Mem.tail _ (List.Mem.tail _ (List.Mem.tail _ (List.Mem.tail _ (List.Mem.tail _ (List.Mem.tail _ (List.Mem.tail _ (List.Mem.head _)))))))))))))
  have cz1 := H.cell (w.heap.size) 1 (.int .i64 0) (List.Mem.tail _ (List.Mem.tail _ (List.Mem.tail _ (List.Mem.tail _ (List.Mem.tail _ (List.Mem.tail _ (List.Mem.tail _ (List.Mem.tail _ (List.Mem.tail _ (List.Mem.tail _ (List.Mem.tail _ (List.Mem.tail _ (List.Mem.tail _ (List.Mem.head _))))))))))))))
  have lz := H.lt (w.heap.size) 0 (.int .i64 0) (List.Mem.tail _ (List.Mem.tail _ (List.Mem.tail _ (List.Mem.tail _ (List.Mem.tail _ (List.Mem.tail _ (List.Mem.tail _ (List.Mem.tail _ (List.Mem.tail _ (List.Mem.tail _ (List.Mem.tail _ (List.Mem.tail _ (List.Mem.head _)))))))))))))
  have fz0 := H.frozen (w.heap.size) 0 (List.Mem.tail _ (List.Mem.tail _ (List.Mem.tail _ (List.Mem.tail _ (List.Mem.tail _ (List.Mem.tail _ (List.Mem.tail _ (List.Mem.tail _ (List.Mem.tail _ (List.Mem.tail _ (List.Mem.tail _ (List.Mem.tail _ (List.Mem.tail _ (List.Mem.tail _ (List.Mem.head _)))))))))))))))
  have fz1 := H.frozen (w.heap.size) 1 (List.Mem.tail _ (List.Mem.tail _ (List.Mem.tail _ (List.Mem.tail _ (List.Mem.tail _ (List.Mem.tail _ (List.Mem.tail _ (List.Mem.tail _ (List.Mem.tail _ (List.Mem.tail _ (List.Mem.tail _ (List.Mem.tail _ (List.Mem.tail _ (List.Mem.tail _ (List.Mem.tail _ (List.Mem.head _))))))))))))))))
  have HK := H.old
  clear H
  go_wp2_with fail
  exact bodyPost_ret (v := .tuple #[.agg #[.int .i64 p, .int .i64 q], .int .i64 0]) (by simp [results, Tryz.results20, go_sem, cz0, cz1]) rfl ⟨rfl, (HK.setCell (by simp <;> omega) _).setCell (by simp <;> omega) _⟩

set_option maxHeartbeats 1000000 in
theorem rus_m31d2 (a b y1 m1 y2 m2 d2 p q : Int) (g2 : Bool) (w : World) (h1 : may y1 m1 31) (ha : nb y1 m1 31 = a) (h2 : may y2 m2 d2) (hb : nb y2 m2 d2 = b) (hab : a ≤ b) (hf1 : febB y1 m1 31 = false) (hf2 : febB y2 m2 d2 = g2) (n2 : d2 ≠ 31) (hp : rN (px y1 m1 30 y2 m2 d2) 360 = p) (hq : rD (px y1 m1 30 y2 m2 d2) 360 = q) :
    Calls Tryz.prog 20 #[.int .i64 a, .int .i64 b, .bool true] w fun e' w' => e' = .returned (.tuple #[.agg #[.int .i64 p, .int .i64 q], .int .i64 0]) ∧ Below w.heap.size w w' := by
  have H := Held.start w
  have b1 := nb_bd _ _ _ h1
  have b2 := nb_bd _ _ _ h2
  rw [ha] at b1
  rw [hb] at b2
  have W1 : Hid (WhyIs_ty a b 0) := Lib.hid (Or.inr (Or.inr ⟨b1, b2, hab, rfl⟩))
  have O1 : Hid (DayIs a y1 m1 31 0) := Lib.hid (Or.inl ⟨h1, ha, rfl⟩)
  have O2 : Hid (DayIs b y2 m2 d2 0) := Lib.hid (Or.inl ⟨h2, hb, rfl⟩)
  have l1 := ln_le y1 m1
  have l2 := ln_le y2 m2
  obtain ⟨u1, u2, u3, u4, u5, u6⟩ := h1
  obtain ⟨v1, v2, v3, v4, v5, v6⟩ := h2
  have w1 : 0 ≤ 31 ∧ 31 ≤ 31 := by omega
  have w2 : 0 ≤ d2 ∧ d2 ≤ 31 := by omega
  clear l1 l2
  have HP := Lib.hid hp
  have HQ := Lib.hid hq
  clear hp hq
  have F1 : Hid (∀ v, Calls Tryz.prog 37 #[.int .i64 a, .agg #[.int .i64 y1, .int .i64 m1, .int .i64 31]] v fun e w' => e = .returned (.bool false) ∧ Below v.heap.size v w') := Lib.hid (fun v => rfeb_is a y1 m1 31 false v ⟨u1, u2, u3, u4, u5, u6⟩ ha hf1)
  have F2 : Hid (∀ v, Calls Tryz.prog 37 #[.int .i64 b, .agg #[.int .i64 y2, .int .i64 m2, .int .i64 d2]] v fun e w' => e = .returned (.bool g2) ∧ Below v.heap.size v w') := Lib.hid (fun v => rfeb_is b y2 m2 d2 g2 v ⟨v1, v2, v3, v4, v5, v6⟩ hb hf2)
  clear hf1 hf2
  have t2 : (d2 == 31) = false := beq_eq_false_iff_ne.2 n2
  clear ha hb hab u6 v6
  go_enter Tryz.func20, Tryz.ntmps20
  go_wp2_with fail
  replace H := (H.pair (w.heap.size) (.int .i64 0) (.int .i64 0) 29 rfl)
  (with_reducible refine (rwhy_any_ty a b 0 _ W1.out).mono ?_)
  rintro e w1 ⟨rfl, hb⟩
  replace H := H.below hb
  clear hb
  go_wp2_with fail
  (with_reducible refine (rof_any a y1 m1 31 0 _ O1.out).mono ?_)
  rintro e w2 ⟨rfl, hb⟩
  replace H := H.below hb
  clear hb
  go_wp2_with fail
  replace H := (H.triple (w2.heap.size) (.int .i64 y1) (.int .i64 m1) (.int .i64 31) 78 rfl)
  (with_reducible refine (rof_any b y2 m2 d2 0 _ O2.out).mono ?_)
  rintro e w3 ⟨rfl, hb⟩
  replace H := H.below hb
  clear hb
  have ca0 := H.cell (w2.heap.size) 0 (.int .i64 y1) (List.Mem.head _)
  have ca1 := H.cell (w2.heap.size) 1 (.int .i64 m1) (List.Mem.tail _ (List.Mem.head _))
  have ca2 := H.cell (w2.heap.size) 2 (.int .i64 31) (List.Mem.tail _ (List.Mem.tail _ (List.Mem.head _)))
  have la := H.lt (w2.heap.size) 0 (.int .i64 y1) (List.Mem.head _)
  go_wp2_with fail
  clear ca0 ca1 ca2 la
  replace H := (H.triple (w3.heap.size) (.int .i64 y2) (.int .i64 m2) (.int .i64 d2) 78 rfl)
  (with_reducible refine (F1.out _).mono ?_)
  rintro e w4 ⟨rfl, hb⟩
  replace H := H.below hb
  clear hb
  have ca0 := H.cell (w2.heap.size) 0 (.int .i64 y1) (List.Mem.tail _ (List.Mem.tail _ (List.Mem.tail _ (List.Mem.tail _ (List.Mem.tail _ (List.Mem.tail _ (List.Mem.head _)))))))
  have ca1 := H.cell (w2.heap.size) 1 (.int .i64 m1) (List.Mem.tail _ (List.Mem.tail _ (List.Mem.tail _ (List.Mem.tail _ (List.Mem.tail _ (List.Mem.tail _ (List.Mem.tail _ (List.Mem.head _))))))))
  have ca2 := H.cell (w2.heap.size) 2 (.int .i64 31) (List.Mem.tail _ (List.Mem.tail _ (List.Mem.tail _ (List.Mem.tail _ (List.Mem.tail _ (List.Mem.tail _ (List.Mem.tail _ (List.Mem.tail _ (List.Mem.head _)))))))))
  have la := H.lt (w2.heap.size) 0 (.int .i64 y1) (List.Mem.tail _ (List.Mem.tail _ (List.Mem.tail _ (List.Mem.tail _ (List.Mem.tail _ (List.Mem.tail _ (List.Mem.head _)))))))
  have cb0 := H.cell (w3.heap.size) 0 (.int .i64 y2) (List.Mem.head _)
  have cb1 := H.cell (w3.heap.size) 1 (.int .i64 m2) (List.Mem.tail _ (List.Mem.head _))
  have cb2 := H.cell (w3.heap.size) 2 (.int .i64 d2) (List.Mem.tail _ (List.Mem.tail _ (List.Mem.head _)))
  have lb := H.lt (w3.heap.size) 0 (.int .i64 y2) (List.Mem.head _)
  go_wp2_with fail
  clear ca0 ca1 ca2 la cb0 cb1 cb2 lb
  (with_reducible refine (F2.out _).mono ?_)
  rintro e w5 ⟨rfl, hb⟩
  replace H := H.below hb
  clear hb
  have ca0 := H.cell (w2.heap.size) 0 (.int .i64 y1) (List.Mem.tail _ (List.Mem.tail _ (List.Mem.tail _ (List.Mem.tail _ (List.Mem.tail _ (List.Mem.tail _ (List.Mem.head _)))))))
  have ca1 := H.cell (w2.heap.size) 1 (.int .i64 m1) (List.Mem.tail _ (List.Mem.tail _ (List.Mem.tail _ (List.Mem.tail _ (List.Mem.tail _ (List.Mem.tail _ (List.Mem.tail _ (List.Mem.head _))))))))
  have ca2 := H.cell (w2.heap.size) 2 (.int .i64 31) (List.Mem.tail _ (List.Mem.tail _ (List.Mem.tail _ (List.Mem.tail _ (List.Mem.tail _ (List.Mem.tail _ (List.Mem.tail _ (List.Mem.tail _ (List.Mem.head _)))))))))
  have la := H.lt (w2.heap.size) 0 (.int .i64 y1) (List.Mem.tail _ (List.Mem.tail _ (List.Mem.tail _ (List.Mem.tail _ (List.Mem.tail _ (List.Mem.tail _ (List.Mem.head _)))))))
  have cb0 := H.cell (w3.heap.size) 0 (.int .i64 y2) (List.Mem.head _)
  have cb1 := H.cell (w3.heap.size) 1 (.int .i64 m2) (List.Mem.tail _ (List.Mem.head _))
  have cb2 := H.cell (w3.heap.size) 2 (.int .i64 d2) (List.Mem.tail _ (List.Mem.tail _ (List.Mem.head _)))
  have lb := H.lt (w3.heap.size) 0 (.int .i64 y2) (List.Mem.head _)
  go_wp2_with fail
  clear ca0 ca1 ca2 la cb0 cb1 cb2 lb
  (with_reducible refine (rpart_any y1 m1 31 y2 m2 d2 30 d2 p q _ ⟨u1, u2⟩ ⟨v1, v2⟩ ⟨u3, u4⟩ ⟨v3, v4⟩ (by omega) (by omega) HP.out HQ.out).mono ?_)
  rintro e w6 ⟨rfl, hb⟩
  replace H := H.below hb
  clear hb
  have cz0 := H.cell (w.heap.size) 0 (.int .i64 0) (List.Mem.tail _ (List.Mem.tail _ (List.Mem.tail _ (List.Mem.tail _ (List.Mem.tail _ (List.Mem.tail _ (List.Mem.tail _ (List.Mem.tail _ (List.Mem.tail _ (List.Mem.tail _ (List.Mem.tail _ (List.Mem.tail _ (List.Mem.head _)))))))))))))
  have cz1 := H.cell (w.heap.size) 1 (.int .i64 0) (List.Mem.tail _ (List.Mem.tail _ (List.Mem.tail _ (List.Mem.tail _ (List.Mem.tail _ (List.Mem.tail _ (List.Mem.tail _ (List.Mem.tail _ (List.Mem.tail _ (List.Mem.tail _ (List.Mem.tail _ (List.Mem.tail _ (List.Mem.tail _ (List.Mem.head _))))))))))))))
  have lz := H.lt (w.heap.size) 0 (.int .i64 0) (List.Mem.tail _ (List.Mem.tail _ (List.Mem.tail _ (List.Mem.tail _ (List.Mem.tail _ (List.Mem.tail _ (List.Mem.tail _ (List.Mem.tail _ (List.Mem.tail _ (List.Mem.tail _ (List.Mem.tail _ (List.Mem.tail _ (List.Mem.head _)))))))))))))
  have fz0 := H.frozen (w.heap.size) 0 (List.Mem.tail _ (List.Mem.tail _ (List.Mem.tail _ (List.Mem.tail _ (List.Mem.tail _ (List.Mem.tail _ (List.Mem.tail _ (List.Mem.tail _ (List.Mem.tail _ (List.Mem.tail _ (List.Mem.tail _ (List.Mem.tail _ (List.Mem.tail _ (List.Mem.tail _ (List.Mem.head _)))))))))))))))
  have fz1 := H.frozen (w.heap.size) 1 (List.Mem.tail _ (List.Mem.tail _ (List.Mem.tail _ (List.Mem.tail _ (List.Mem.tail _ (List.Mem.tail _ (List.Mem.tail _ (List.Mem.tail _ (List.Mem.tail _ (List.Mem.tail _ (List.Mem.tail _ (List.Mem.tail _ (List.Mem.tail _ (List.Mem.tail _ (List.Mem.tail _ (List.Mem.head _))))))))))))))))
  have HK := H.old
  clear H
  go_wp2_with fail
  exact bodyPost_ret (v := .tuple #[.agg #[.int .i64 p, .int .i64 q], .int .i64 0]) (by simp [results, Tryz.results20, go_sem, cz0, cz1]) rfl ⟨rfl, (HK.setCell (by simp <;> omega) _).setCell (by simp <;> omega) _⟩

set_option maxHeartbeats 1000000 in
theorem rus_m3031 (a b y1 m1 y2 m2 p q : Int) (g2 : Bool) (w : World) (h1 : may y1 m1 30) (ha : nb y1 m1 30 = a) (h2 : may y2 m2 31) (hb : nb y2 m2 31 = b) (hab : a ≤ b) (hf1 : febB y1 m1 30 = false) (hf2 : febB y2 m2 31 = g2) (hp : rN (px y1 m1 30 y2 m2 30) 360 = p) (hq : rD (px y1 m1 30 y2 m2 30) 360 = q) :
    Calls Tryz.prog 20 #[.int .i64 a, .int .i64 b, .bool true] w fun e' w' => e' = .returned (.tuple #[.agg #[.int .i64 p, .int .i64 q], .int .i64 0]) ∧ Below w.heap.size w w' := by
  have H := Held.start w
  have b1 := nb_bd _ _ _ h1
  have b2 := nb_bd _ _ _ h2
  rw [ha] at b1
  rw [hb] at b2
  have W1 : Hid (WhyIs_ty a b 0) := Lib.hid (Or.inr (Or.inr ⟨b1, b2, hab, rfl⟩))
  have O1 : Hid (DayIs a y1 m1 30 0) := Lib.hid (Or.inl ⟨h1, ha, rfl⟩)
  have O2 : Hid (DayIs b y2 m2 31 0) := Lib.hid (Or.inl ⟨h2, hb, rfl⟩)
  have l1 := ln_le y1 m1
  have l2 := ln_le y2 m2
  obtain ⟨u1, u2, u3, u4, u5, u6⟩ := h1
  obtain ⟨v1, v2, v3, v4, v5, v6⟩ := h2
  have w1 : 0 ≤ 30 ∧ 30 ≤ 31 := by omega
  have w2 : 0 ≤ 31 ∧ 31 ≤ 31 := by omega
  clear l1 l2
  have HP := Lib.hid hp
  have HQ := Lib.hid hq
  clear hp hq
  have F1 : Hid (∀ v, Calls Tryz.prog 37 #[.int .i64 a, .agg #[.int .i64 y1, .int .i64 m1, .int .i64 30]] v fun e w' => e = .returned (.bool false) ∧ Below v.heap.size v w') := Lib.hid (fun v => rfeb_is a y1 m1 30 false v ⟨u1, u2, u3, u4, u5, u6⟩ ha hf1)
  have F2 : Hid (∀ v, Calls Tryz.prog 37 #[.int .i64 b, .agg #[.int .i64 y2, .int .i64 m2, .int .i64 31]] v fun e w' => e = .returned (.bool g2) ∧ Below v.heap.size v w') := Lib.hid (fun v => rfeb_is b y2 m2 31 g2 v ⟨v1, v2, v3, v4, v5, v6⟩ hb hf2)
  clear hf1 hf2
  clear ha hb hab u6 v6
  go_enter Tryz.func20, Tryz.ntmps20
  go_wp2_with fail
  replace H := (H.pair (w.heap.size) (.int .i64 0) (.int .i64 0) 29 rfl)
  (with_reducible refine (rwhy_any_ty a b 0 _ W1.out).mono ?_)
  rintro e w1 ⟨rfl, hb⟩
  replace H := H.below hb
  clear hb
  go_wp2_with fail
  (with_reducible refine (rof_any a y1 m1 30 0 _ O1.out).mono ?_)
  rintro e w2 ⟨rfl, hb⟩
  replace H := H.below hb
  clear hb
  go_wp2_with fail
  replace H := (H.triple (w2.heap.size) (.int .i64 y1) (.int .i64 m1) (.int .i64 30) 78 rfl)
  (with_reducible refine (rof_any b y2 m2 31 0 _ O2.out).mono ?_)
  rintro e w3 ⟨rfl, hb⟩
  replace H := H.below hb
  clear hb
  have ca0 := H.cell (w2.heap.size) 0 (.int .i64 y1) (List.Mem.head _)
  have ca1 := H.cell (w2.heap.size) 1 (.int .i64 m1) (List.Mem.tail _ (List.Mem.head _))
  have ca2 := H.cell (w2.heap.size) 2 (.int .i64 30) (List.Mem.tail _ (List.Mem.tail _ (List.Mem.head _)))
  have la := H.lt (w2.heap.size) 0 (.int .i64 y1) (List.Mem.head _)
  go_wp2_with fail
  clear ca0 ca1 ca2 la
  replace H := (H.triple (w3.heap.size) (.int .i64 y2) (.int .i64 m2) (.int .i64 31) 78 rfl)
  (with_reducible refine (F1.out _).mono ?_)
  rintro e w4 ⟨rfl, hb⟩
  replace H := H.below hb
  clear hb
  have ca0 := H.cell (w2.heap.size) 0 (.int .i64 y1) (List.Mem.tail _ (List.Mem.tail _ (List.Mem.tail _ (List.Mem.tail _ (List.Mem.tail _ (List.Mem.tail _ (List.Mem.head _)))))))
  have ca1 := H.cell (w2.heap.size) 1 (.int .i64 m1) (List.Mem.tail _ (List.Mem.tail _ (List.Mem.tail _ (List.Mem.tail _ (List.Mem.tail _ (List.Mem.tail _ (List.Mem.tail _ (List.Mem.head _))))))))
  have ca2 := H.cell (w2.heap.size) 2 (.int .i64 30) (List.Mem.tail _ (List.Mem.tail _ (List.Mem.tail _ (List.Mem.tail _ (List.Mem.tail _ (List.Mem.tail _ (List.Mem.tail _ (List.Mem.tail _ (List.Mem.head _)))))))))
  have la := H.lt (w2.heap.size) 0 (.int .i64 y1) (List.Mem.tail _ (List.Mem.tail _ (List.Mem.tail _ (List.Mem.tail _ (List.Mem.tail _ (List.Mem.tail _ (List.Mem.head _)))))))
  have cb0 := H.cell (w3.heap.size) 0 (.int .i64 y2) (List.Mem.head _)
  have cb1 := H.cell (w3.heap.size) 1 (.int .i64 m2) (List.Mem.tail _ (List.Mem.head _))
  have cb2 := H.cell (w3.heap.size) 2 (.int .i64 31) (List.Mem.tail _ (List.Mem.tail _ (List.Mem.head _)))
  have lb := H.lt (w3.heap.size) 0 (.int .i64 y2) (List.Mem.head _)
  go_wp2_with fail
  clear ca0 ca1 ca2 la cb0 cb1 cb2 lb
  (with_reducible refine (F2.out _).mono ?_)
  rintro e w5 ⟨rfl, hb⟩
  replace H := H.below hb
  clear hb
  have ca0 := H.cell (w2.heap.size) 0 (.int .i64 y1) (List.Mem.tail _ (List.Mem.tail _ (List.Mem.tail _ (List.Mem.tail _ (List.Mem.tail _ (List.Mem.tail _ (List.Mem.head _)))))))
  have ca1 := H.cell (w2.heap.size) 1 (.int .i64 m1) (List.Mem.tail _ (List.Mem.tail _ (List.Mem.tail _ (List.Mem.tail _ (List.Mem.tail _ (List.Mem.tail _ (List.Mem.tail _ (List.Mem.head _))))))))
  have ca2 := H.cell (w2.heap.size) 2 (.int .i64 30) (List.Mem.tail _ (List.Mem.tail _ (List.Mem.tail _ (List.Mem.tail _ (List.Mem.tail _ (List.Mem.tail _ (List.Mem.tail _ (List.Mem.tail _ (List.Mem.head _)))))))))
  have la := H.lt (w2.heap.size) 0 (.int .i64 y1) (List.Mem.tail _ (List.Mem.tail _ (List.Mem.tail _ (List.Mem.tail _ (List.Mem.tail _ (List.Mem.tail _ (List.Mem.head _)))))))
  have cb0 := H.cell (w3.heap.size) 0 (.int .i64 y2) (List.Mem.head _)
  have cb1 := H.cell (w3.heap.size) 1 (.int .i64 m2) (List.Mem.tail _ (List.Mem.head _))
  have cb2 := H.cell (w3.heap.size) 2 (.int .i64 31) (List.Mem.tail _ (List.Mem.tail _ (List.Mem.head _)))
  have lb := H.lt (w3.heap.size) 0 (.int .i64 y2) (List.Mem.head _)
  go_wp2_with fail
  clear ca0 ca1 ca2 la cb0 cb1 cb2 lb
  (with_reducible refine (rpart_any y1 m1 30 y2 m2 31 30 30 p q _ ⟨u1, u2⟩ ⟨v1, v2⟩ ⟨u3, u4⟩ ⟨v3, v4⟩ (by omega) (by omega) HP.out HQ.out).mono ?_)
  rintro e w6 ⟨rfl, hb⟩
  replace H := H.below hb
  clear hb
  have cz0 := H.cell (w.heap.size) 0 (.int .i64 0) (List.Mem.tail _ (List.Mem.tail _ (List.Mem.tail _ (List.Mem.tail _ (List.Mem.tail _ (List.Mem.tail _ (List.Mem.tail _ (List.Mem.tail _ (List.Mem.tail _ (List.Mem.tail _ (List.Mem.tail _ (List.Mem.tail _ (List.Mem.head _)))))))))))))
  have cz1 := H.cell (w.heap.size) 1 (.int .i64 0) (List.Mem.tail _ (List.Mem.tail _ (List.Mem.tail _ (List.Mem.tail _ (List.Mem.tail _ (List.Mem.tail _ (List.Mem.tail _ (List.Mem.tail _ (List.Mem.tail _ (List.Mem.tail _ (List.Mem.tail _ (List.Mem.tail _ (List.Mem.tail _ (List.Mem.head _))))))))))))))
  have lz := H.lt (w.heap.size) 0 (.int .i64 0) (List.Mem.tail _ (List.Mem.tail _ (List.Mem.tail _ (List.Mem.tail _ (List.Mem.tail _ (List.Mem.tail _ (List.Mem.tail _ (List.Mem.tail _ (List.Mem.tail _ (List.Mem.tail _ (List.Mem.tail _ (List.Mem.tail _ (List.Mem.head _)))))))))))))
  have fz0 := H.frozen (w.heap.size) 0 (List.Mem.tail _ (List.Mem.tail _ (List.Mem.tail _ (List.Mem.tail _ (List.Mem.tail _ (List.Mem.tail _ (List.Mem.tail _ (List.Mem.tail _ (List.Mem.tail _ (List.Mem.tail _ (List.Mem.tail _ (List.Mem.tail _ (List.Mem.tail _ (List.Mem.tail _ (List.Mem.head _)))))))))))))))
  have fz1 := H.frozen (w.heap.size) 1 (List.Mem.tail _ (List.Mem.tail _ (List.Mem.tail _ (List.Mem.tail _ (List.Mem.tail _ (List.Mem.tail _ (List.Mem.tail _ (List.Mem.tail _ (List.Mem.tail _ (List.Mem.tail _ (List.Mem.tail _ (List.Mem.tail _ (List.Mem.tail _ (List.Mem.tail _ (List.Mem.tail _ (List.Mem.head _))))))))))))))))
  have HK := H.old
  clear H
  go_wp2_with fail
  exact bodyPost_ret (v := .tuple #[.agg #[.int .i64 p, .int .i64 q], .int .i64 0]) (by simp [results, Tryz.results20, go_sem, cz0, cz1]) rfl ⟨rfl, (HK.setCell (by simp <;> omega) _).setCell (by simp <;> omega) _⟩

set_option maxHeartbeats 1000000 in
theorem rus_m30d2 (a b y1 m1 y2 m2 d2 p q : Int) (g2 : Bool) (w : World) (h1 : may y1 m1 30) (ha : nb y1 m1 30 = a) (h2 : may y2 m2 d2) (hb : nb y2 m2 d2 = b) (hab : a ≤ b) (hf1 : febB y1 m1 30 = false) (hf2 : febB y2 m2 d2 = g2) (n2 : d2 ≠ 31) (hp : rN (px y1 m1 30 y2 m2 d2) 360 = p) (hq : rD (px y1 m1 30 y2 m2 d2) 360 = q) :
    Calls Tryz.prog 20 #[.int .i64 a, .int .i64 b, .bool true] w fun e' w' => e' = .returned (.tuple #[.agg #[.int .i64 p, .int .i64 q], .int .i64 0]) ∧ Below w.heap.size w w' := by
  have H := Held.start w
  have b1 := nb_bd _ _ _ h1
  have b2 := nb_bd _ _ _ h2
  rw [ha] at b1
  rw [hb] at b2
  have W1 : Hid (WhyIs_ty a b 0) := Lib.hid (Or.inr (Or.inr ⟨b1, b2, hab, rfl⟩))
  have O1 : Hid (DayIs a y1 m1 30 0) := Lib.hid (Or.inl ⟨h1, ha, rfl⟩)
  have O2 : Hid (DayIs b y2 m2 d2 0) := Lib.hid (Or.inl ⟨h2, hb, rfl⟩)
  have l1 := ln_le y1 m1
  have l2 := ln_le y2 m2
  obtain ⟨u1, u2, u3, u4, u5, u6⟩ := h1
  obtain ⟨v1, v2, v3, v4, v5, v6⟩ := h2
  have w1 : 0 ≤ 30 ∧ 30 ≤ 31 := by omega
  have w2 : 0 ≤ d2 ∧ d2 ≤ 31 := by omega
  clear l1 l2
  have HP := Lib.hid hp
  have HQ := Lib.hid hq
  clear hp hq
  have F1 : Hid (∀ v, Calls Tryz.prog 37 #[.int .i64 a, .agg #[.int .i64 y1, .int .i64 m1, .int .i64 30]] v fun e w' => e = .returned (.bool false) ∧ Below v.heap.size v w') := Lib.hid (fun v => rfeb_is a y1 m1 30 false v ⟨u1, u2, u3, u4, u5, u6⟩ ha hf1)
  have F2 : Hid (∀ v, Calls Tryz.prog 37 #[.int .i64 b, .agg #[.int .i64 y2, .int .i64 m2, .int .i64 d2]] v fun e w' => e = .returned (.bool g2) ∧ Below v.heap.size v w') := Lib.hid (fun v => rfeb_is b y2 m2 d2 g2 v ⟨v1, v2, v3, v4, v5, v6⟩ hb hf2)
  clear hf1 hf2
  have t2 : (d2 == 31) = false := beq_eq_false_iff_ne.2 n2
  clear ha hb hab u6 v6
  go_enter Tryz.func20, Tryz.ntmps20
  go_wp2_with fail
  replace H := (H.pair (w.heap.size) (.int .i64 0) (.int .i64 0) 29 rfl)
  (with_reducible refine (rwhy_any_ty a b 0 _ W1.out).mono ?_)
  rintro e w1 ⟨rfl, hb⟩
  replace H := H.below hb
  clear hb
  go_wp2_with fail
  (with_reducible refine (rof_any a y1 m1 30 0 _ O1.out).mono ?_)
  rintro e w2 ⟨rfl, hb⟩
  replace H := H.below hb
  clear hb
  go_wp2_with fail
  replace H := (H.triple (w2.heap.size) (.int .i64 y1) (.int .i64 m1) (.int .i64 30) 78 rfl)
  (with_reducible refine (rof_any b y2 m2 d2 0 _ O2.out).mono ?_)
  rintro e w3 ⟨rfl, hb⟩
  replace H := H.below hb
  clear hb
  have ca0 := H.cell (w2.heap.size) 0 (.int .i64 y1) (List.Mem.head _)
  have ca1 := H.cell (w2.heap.size) 1 (.int .i64 m1) (List.Mem.tail _ (List.Mem.head _))
  have ca2 := H.cell (w2.heap.size) 2 (.int .i64 30) (List.Mem.tail _ (List.Mem.tail _ (List.Mem.head _)))
  have la := H.lt (w2.heap.size) 0 (.int .i64 y1) (List.Mem.head _)
  go_wp2_with fail
  clear ca0 ca1 ca2 la
  replace H := (H.triple (w3.heap.size) (.int .i64 y2) (.int .i64 m2) (.int .i64 d2) 78 rfl)
  (with_reducible refine (F1.out _).mono ?_)
  rintro e w4 ⟨rfl, hb⟩
  replace H := H.below hb
  clear hb
  have ca0 := H.cell (w2.heap.size) 0 (.int .i64 y1) (List.Mem.tail _ (List.Mem.tail _ (List.Mem.tail _ (List.Mem.tail _ (List.Mem.tail _ (List.Mem.tail _ (List.Mem.head _)))))))
  have ca1 := H.cell (w2.heap.size) 1 (.int .i64 m1) (List.Mem.tail _ (List.Mem.tail _ (List.Mem.tail _ (List.Mem.tail _ (List.Mem.tail _ (List.Mem.tail _ (List.Mem.tail _ (List.Mem.head _))))))))
  have ca2 := H.cell (w2.heap.size) 2 (.int .i64 30) (List.Mem.tail _ (List.Mem.tail _ (List.Mem.tail _ (List.Mem.tail _ (List.Mem.tail _ (List.Mem.tail _ (List.Mem.tail _ (List.Mem.tail _ (List.Mem.head _)))))))))
  have la := H.lt (w2.heap.size) 0 (.int .i64 y1) (List.Mem.tail _ (List.Mem.tail _ (List.Mem.tail _ (List.Mem.tail _ (List.Mem.tail _ (List.Mem.tail _ (List.Mem.head _)))))))
  have cb0 := H.cell (w3.heap.size) 0 (.int .i64 y2) (List.Mem.head _)
  have cb1 := H.cell (w3.heap.size) 1 (.int .i64 m2) (List.Mem.tail _ (List.Mem.head _))
  have cb2 := H.cell (w3.heap.size) 2 (.int .i64 d2) (List.Mem.tail _ (List.Mem.tail _ (List.Mem.head _)))
  have lb := H.lt (w3.heap.size) 0 (.int .i64 y2) (List.Mem.head _)
  go_wp2_with fail
  clear ca0 ca1 ca2 la cb0 cb1 cb2 lb
  (with_reducible refine (F2.out _).mono ?_)
  rintro e w5 ⟨rfl, hb⟩
  replace H := H.below hb
  clear hb
  have ca0 := H.cell (w2.heap.size) 0 (.int .i64 y1) (List.Mem.tail _ (List.Mem.tail _ (List.Mem.tail _ (List.Mem.tail _ (List.Mem.tail _ (List.Mem.tail _ (List.Mem.head _)))))))
  have ca1 := H.cell (w2.heap.size) 1 (.int .i64 m1) (List.Mem.tail _ (List.Mem.tail _ (List.Mem.tail _ (List.Mem.tail _ (List.Mem.tail _ (List.Mem.tail _ (List.Mem.tail _ (List.Mem.head _))))))))
  have ca2 := H.cell (w2.heap.size) 2 (.int .i64 30) (List.Mem.tail _ (List.Mem.tail _ (List.Mem.tail _ (List.Mem.tail _ (List.Mem.tail _ (List.Mem.tail _ (List.Mem.tail _ (List.Mem.tail _ (List.Mem.head _)))))))))
  have la := H.lt (w2.heap.size) 0 (.int .i64 y1) (List.Mem.tail _ (List.Mem.tail _ (List.Mem.tail _ (List.Mem.tail _ (List.Mem.tail _ (List.Mem.tail _ (List.Mem.head _)))))))
  have cb0 := H.cell (w3.heap.size) 0 (.int .i64 y2) (List.Mem.head _)
  have cb1 := H.cell (w3.heap.size) 1 (.int .i64 m2) (List.Mem.tail _ (List.Mem.head _))
  have cb2 := H.cell (w3.heap.size) 2 (.int .i64 d2) (List.Mem.tail _ (List.Mem.tail _ (List.Mem.head _)))
  have lb := H.lt (w3.heap.size) 0 (.int .i64 y2) (List.Mem.head _)
  go_wp2_with fail
  clear ca0 ca1 ca2 la cb0 cb1 cb2 lb
  (with_reducible refine (rpart_any y1 m1 30 y2 m2 d2 30 d2 p q _ ⟨u1, u2⟩ ⟨v1, v2⟩ ⟨u3, u4⟩ ⟨v3, v4⟩ (by omega) (by omega) HP.out HQ.out).mono ?_)
  rintro e w6 ⟨rfl, hb⟩
  replace H := H.below hb
  clear hb
  have cz0 := H.cell (w.heap.size) 0 (.int .i64 0) (List.Mem.tail _ (List.Mem.tail _ (List.Mem.tail _ (List.Mem.tail _ (List.Mem.tail _ (List.Mem.tail _ (List.Mem.tail _ (List.Mem.tail _ (List.Mem.tail _ (List.Mem.tail _ (List.Mem.tail _ (List.Mem.tail _ (List.Mem.head _)))))))))))))
  have cz1 := H.cell (w.heap.size) 1 (.int .i64 0) (List.Mem.tail _ (List.Mem.tail _ (List.Mem.tail _ (List.Mem.tail _ (List.Mem.tail _ (List.Mem.tail _ (List.Mem.tail _ (List.Mem.tail _ (List.Mem.tail _ (List.Mem.tail _ (List.Mem.tail _ (List.Mem.tail _ (List.Mem.tail _ (List.Mem.head _))))))))))))))
  have lz := H.lt (w.heap.size) 0 (.int .i64 0) (List.Mem.tail _ (List.Mem.tail _ (List.Mem.tail _ (List.Mem.tail _ (List.Mem.tail _ (List.Mem.tail _ (List.Mem.tail _ (List.Mem.tail _ (List.Mem.tail _ (List.Mem.tail _ (List.Mem.tail _ (List.Mem.tail _ (List.Mem.head _)))))))))))))
  have fz0 := H.frozen (w.heap.size) 0 (List.Mem.tail _ (List.Mem.tail _ (List.Mem.tail _ (List.Mem.tail _ (List.Mem.tail _ (List.Mem.tail _ (List.Mem.tail _ (List.Mem.tail _ (List.Mem.tail _ (List.Mem.tail _ (List.Mem.tail _ (List.Mem.tail _ (List.Mem.tail _ (List.Mem.tail _ (List.Mem.head _)))))))))))))))
  have fz1 := H.frozen (w.heap.size) 1 (List.Mem.tail _ (List.Mem.tail _ (List.Mem.tail _ (List.Mem.tail _ (List.Mem.tail _ (List.Mem.tail _ (List.Mem.tail _ (List.Mem.tail _ (List.Mem.tail _ (List.Mem.tail _ (List.Mem.tail _ (List.Mem.tail _ (List.Mem.tail _ (List.Mem.tail _ (List.Mem.tail _ (List.Mem.head _))))))))))))))))
  have HK := H.old
  clear H
  go_wp2_with fail
  exact bodyPost_ret (v := .tuple #[.agg #[.int .i64 p, .int .i64 q], .int .i64 0]) (by simp [results, Tryz.results20, go_sem, cz0, cz1]) rfl ⟨rfl, (HK.setCell (by simp <;> omega) _).setCell (by simp <;> omega) _⟩

set_option maxHeartbeats 1000000 in
theorem rus_md131 (a b y1 m1 d1 y2 m2 p q : Int) (g2 : Bool) (w : World) (h1 : may y1 m1 d1) (ha : nb y1 m1 d1 = a) (h2 : may y2 m2 31) (hb : nb y2 m2 31 = b) (hab : a ≤ b) (hf1 : febB y1 m1 d1 = false) (hf2 : febB y2 m2 31 = g2) (n1 : d1 ≠ 31) (n3 : d1 ≠ 30) (hp : rN (px y1 m1 d1 y2 m2 31) 360 = p) (hq : rD (px y1 m1 d1 y2 m2 31) 360 = q) :
    Calls Tryz.prog 20 #[.int .i64 a, .int .i64 b, .bool true] w fun e' w' => e' = .returned (.tuple #[.agg #[.int .i64 p, .int .i64 q], .int .i64 0]) ∧ Below w.heap.size w w' := by
  have H := Held.start w
  have b1 := nb_bd _ _ _ h1
  have b2 := nb_bd _ _ _ h2
  rw [ha] at b1
  rw [hb] at b2
  have W1 : Hid (WhyIs_ty a b 0) := Lib.hid (Or.inr (Or.inr ⟨b1, b2, hab, rfl⟩))
  have O1 : Hid (DayIs a y1 m1 d1 0) := Lib.hid (Or.inl ⟨h1, ha, rfl⟩)
  have O2 : Hid (DayIs b y2 m2 31 0) := Lib.hid (Or.inl ⟨h2, hb, rfl⟩)
  have l1 := ln_le y1 m1
  have l2 := ln_le y2 m2
  obtain ⟨u1, u2, u3, u4, u5, u6⟩ := h1
  obtain ⟨v1, v2, v3, v4, v5, v6⟩ := h2
  have w1 : 0 ≤ d1 ∧ d1 ≤ 31 := by omega
  have w2 : 0 ≤ 31 ∧ 31 ≤ 31 := by omega
  clear l1 l2
  have HP := Lib.hid hp
  have HQ := Lib.hid hq
  clear hp hq
  have F1 : Hid (∀ v, Calls Tryz.prog 37 #[.int .i64 a, .agg #[.int .i64 y1, .int .i64 m1, .int .i64 d1]] v fun e w' => e = .returned (.bool false) ∧ Below v.heap.size v w') := Lib.hid (fun v => rfeb_is a y1 m1 d1 false v ⟨u1, u2, u3, u4, u5, u6⟩ ha hf1)
  have F2 : Hid (∀ v, Calls Tryz.prog 37 #[.int .i64 b, .agg #[.int .i64 y2, .int .i64 m2, .int .i64 31]] v fun e w' => e = .returned (.bool g2) ∧ Below v.heap.size v w') := Lib.hid (fun v => rfeb_is b y2 m2 31 g2 v ⟨v1, v2, v3, v4, v5, v6⟩ hb hf2)
  clear hf1 hf2
  have t1 : (d1 == 31) = false := beq_eq_false_iff_ne.2 n1
  have t3 : (d1 == 30) = false := beq_eq_false_iff_ne.2 n3
  clear ha hb hab u6 v6
  go_enter Tryz.func20, Tryz.ntmps20
  go_wp2_with fail
  replace H := (H.pair (w.heap.size) (.int .i64 0) (.int .i64 0) 29 rfl)
  (with_reducible refine (rwhy_any_ty a b 0 _ W1.out).mono ?_)
  rintro e w1 ⟨rfl, hb⟩
  replace H := H.below hb
  clear hb
  go_wp2_with fail
  (with_reducible refine (rof_any a y1 m1 d1 0 _ O1.out).mono ?_)
  rintro e w2 ⟨rfl, hb⟩
  replace H := H.below hb
  clear hb
  go_wp2_with fail
  replace H := (H.triple (w2.heap.size) (.int .i64 y1) (.int .i64 m1) (.int .i64 d1) 78 rfl)
  (with_reducible refine (rof_any b y2 m2 31 0 _ O2.out).mono ?_)
  rintro e w3 ⟨rfl, hb⟩
  replace H := H.below hb
  clear hb
  have ca0 := H.cell (w2.heap.size) 0 (.int .i64 y1) (List.Mem.head _)
  have ca1 := H.cell (w2.heap.size) 1 (.int .i64 m1) (List.Mem.tail _ (List.Mem.head _))
  have ca2 := H.cell (w2.heap.size) 2 (.int .i64 d1) (List.Mem.tail _ (List.Mem.tail _ (List.Mem.head _)))
  have la := H.lt (w2.heap.size) 0 (.int .i64 y1) (List.Mem.head _)
  go_wp2_with fail
  clear ca0 ca1 ca2 la
  replace H := (H.triple (w3.heap.size) (.int .i64 y2) (.int .i64 m2) (.int .i64 31) 78 rfl)
  (with_reducible refine (F1.out _).mono ?_)
  rintro e w4 ⟨rfl, hb⟩
  replace H := H.below hb
  clear hb
  have ca0 := H.cell (w2.heap.size) 0 (.int .i64 y1) (List.Mem.tail _ (List.Mem.tail _ (List.Mem.tail _ (List.Mem.tail _ (List.Mem.tail _ (List.Mem.tail _ (List.Mem.head _)))))))
  have ca1 := H.cell (w2.heap.size) 1 (.int .i64 m1) (List.Mem.tail _ (List.Mem.tail _ (List.Mem.tail _ (List.Mem.tail _ (List.Mem.tail _ (List.Mem.tail _ (List.Mem.tail _ (List.Mem.head _))))))))
  have ca2 := H.cell (w2.heap.size) 2 (.int .i64 d1) (List.Mem.tail _ (List.Mem.tail _ (List.Mem.tail _ (List.Mem.tail _ (List.Mem.tail _ (List.Mem.tail _ (List.Mem.tail _ (List.Mem.tail _ (List.Mem.head _)))))))))
  have la := H.lt (w2.heap.size) 0 (.int .i64 y1) (List.Mem.tail _ (List.Mem.tail _ (List.Mem.tail _ (List.Mem.tail _ (List.Mem.tail _ (List.Mem.tail _ (List.Mem.head _)))))))
  have cb0 := H.cell (w3.heap.size) 0 (.int .i64 y2) (List.Mem.head _)
  have cb1 := H.cell (w3.heap.size) 1 (.int .i64 m2) (List.Mem.tail _ (List.Mem.head _))
  have cb2 := H.cell (w3.heap.size) 2 (.int .i64 31) (List.Mem.tail _ (List.Mem.tail _ (List.Mem.head _)))
  have lb := H.lt (w3.heap.size) 0 (.int .i64 y2) (List.Mem.head _)
  go_wp2_with fail
  clear ca0 ca1 ca2 la cb0 cb1 cb2 lb
  (with_reducible refine (F2.out _).mono ?_)
  rintro e w5 ⟨rfl, hb⟩
  replace H := H.below hb
  clear hb
  have ca0 := H.cell (w2.heap.size) 0 (.int .i64 y1) (List.Mem.tail _ (List.Mem.tail _ (List.Mem.tail _ (List.Mem.tail _ (List.Mem.tail _ (List.Mem.tail _ (List.Mem.head _)))))))
  have ca1 := H.cell (w2.heap.size) 1 (.int .i64 m1) (List.Mem.tail _ (List.Mem.tail _ (List.Mem.tail _ (List.Mem.tail _ (List.Mem.tail _ (List.Mem.tail _ (List.Mem.tail _ (List.Mem.head _))))))))
  have ca2 := H.cell (w2.heap.size) 2 (.int .i64 d1) (List.Mem.tail _ (List.Mem.tail _ (List.Mem.tail _ (List.Mem.tail _ (List.Mem.tail _ (List.Mem.tail _ (List.Mem.tail _ (List.Mem.tail _ (List.Mem.head _)))))))))
  have la := H.lt (w2.heap.size) 0 (.int .i64 y1) (List.Mem.tail _ (List.Mem.tail _ (List.Mem.tail _ (List.Mem.tail _ (List.Mem.tail _ (List.Mem.tail _ (List.Mem.head _)))))))
  have cb0 := H.cell (w3.heap.size) 0 (.int .i64 y2) (List.Mem.head _)
  have cb1 := H.cell (w3.heap.size) 1 (.int .i64 m2) (List.Mem.tail _ (List.Mem.head _))
  have cb2 := H.cell (w3.heap.size) 2 (.int .i64 31) (List.Mem.tail _ (List.Mem.tail _ (List.Mem.head _)))
  have lb := H.lt (w3.heap.size) 0 (.int .i64 y2) (List.Mem.head _)
  go_wp2_with fail
  clear ca0 ca1 ca2 la cb0 cb1 cb2 lb
  (with_reducible refine (rpart_any y1 m1 d1 y2 m2 31 d1 31 p q _ ⟨u1, u2⟩ ⟨v1, v2⟩ ⟨u3, u4⟩ ⟨v3, v4⟩ (by omega) (by omega) HP.out HQ.out).mono ?_)
  rintro e w6 ⟨rfl, hb⟩
  replace H := H.below hb
  clear hb
  have cz0 := H.cell (w.heap.size) 0 (.int .i64 0) (List.Mem.tail _ (List.Mem.tail _ (List.Mem.tail _ (List.Mem.tail _ (List.Mem.tail _ (List.Mem.tail _ (List.Mem.tail _ (List.Mem.tail _ (List.Mem.tail _ (List.Mem.tail _ (List.Mem.tail _ (List.Mem.tail _ (List.Mem.head _)))))))))))))
  have cz1 := H.cell (w.heap.size) 1 (.int .i64 0) (List.Mem.tail _ (List.Mem.tail _ (List.Mem.tail _ (List.Mem.tail _ (List.Mem.tail _ (List.Mem.tail _ (List.Mem.tail _ (List.Mem.tail _ (List.Mem.tail _ (List.Mem.tail _ (List.Mem.tail _ (List.Mem.tail _ (List.Mem.tail _ (List.Mem.head _))))))))))))))
  have lz := H.lt (w.heap.size) 0 (.int .i64 0) (List.Mem.tail _ (List.Mem.tail _ (List.Mem.tail _ (List.Mem.tail _ (List.Mem.tail _ (List.Mem.tail _ (List.Mem.tail _ (List.Mem.tail _ (List.Mem.tail _ (List.Mem.tail _ (List.Mem.tail _ (List.Mem.tail _ (List.Mem.head _)))))))))))))
  have fz0 := H.frozen (w.heap.size) 0 (List.Mem.tail _ (List.Mem.tail _ (List.Mem.tail _ (List.Mem.tail _ (List.Mem.tail _ (List.Mem.tail _ (List.Mem.tail _ (List.Mem.tail _ (List.Mem.tail _ (List.Mem.tail _ (List.Mem.tail _ (List.Mem.tail _ (List.Mem.tail _ (List.Mem.tail _ (List.Mem.head _)))))))))))))))
  have fz1 := H.frozen (w.heap.size) 1 (List.Mem.tail _ (List.Mem.tail _ (List.Mem.tail _ (List.Mem.tail _ (List.Mem.tail _ (List.Mem.tail _ (List.Mem.tail _ (List.Mem.tail _ (List.Mem.tail _ (List.Mem.tail _ (List.Mem.tail _ (List.Mem.tail _ (List.Mem.tail _ (List.Mem.tail _ (List.Mem.tail _ (List.Mem.head _))))))))))))))))
  have HK := H.old
  clear H
  go_wp2_with fail
  exact bodyPost_ret (v := .tuple #[.agg #[.int .i64 p, .int .i64 q], .int .i64 0]) (by simp [results, Tryz.results20, go_sem, cz0, cz1]) rfl ⟨rfl, (HK.setCell (by simp <;> omega) _).setCell (by simp <;> omega) _⟩

set_option maxHeartbeats 1000000 in
theorem rus_md1d2 (a b y1 m1 d1 y2 m2 d2 p q : Int) (g2 : Bool) (w : World) (h1 : may y1 m1 d1) (ha : nb y1 m1 d1 = a) (h2 : may y2 m2 d2) (hb : nb y2 m2 d2 = b) (hab : a ≤ b) (hf1 : febB y1 m1 d1 = false) (hf2 : febB y2 m2 d2 = g2) (n1 : d1 ≠ 31) (n3 : d1 ≠ 30) (n2 : d2 ≠ 31) (hp : rN (px y1 m1 d1 y2 m2 d2) 360 = p) (hq : rD (px y1 m1 d1 y2 m2 d2) 360 = q) :
    Calls Tryz.prog 20 #[.int .i64 a, .int .i64 b, .bool true] w fun e' w' => e' = .returned (.tuple #[.agg #[.int .i64 p, .int .i64 q], .int .i64 0]) ∧ Below w.heap.size w w' := by
  have H := Held.start w
  have b1 := nb_bd _ _ _ h1
  have b2 := nb_bd _ _ _ h2
  rw [ha] at b1
  rw [hb] at b2
  have W1 : Hid (WhyIs_ty a b 0) := Lib.hid (Or.inr (Or.inr ⟨b1, b2, hab, rfl⟩))
  have O1 : Hid (DayIs a y1 m1 d1 0) := Lib.hid (Or.inl ⟨h1, ha, rfl⟩)
  have O2 : Hid (DayIs b y2 m2 d2 0) := Lib.hid (Or.inl ⟨h2, hb, rfl⟩)
  have l1 := ln_le y1 m1
  have l2 := ln_le y2 m2
  obtain ⟨u1, u2, u3, u4, u5, u6⟩ := h1
  obtain ⟨v1, v2, v3, v4, v5, v6⟩ := h2
  have w1 : 0 ≤ d1 ∧ d1 ≤ 31 := by omega
  have w2 : 0 ≤ d2 ∧ d2 ≤ 31 := by omega
  clear l1 l2
  have HP := Lib.hid hp
  have HQ := Lib.hid hq
  clear hp hq
  have F1 : Hid (∀ v, Calls Tryz.prog 37 #[.int .i64 a, .agg #[.int .i64 y1, .int .i64 m1, .int .i64 d1]] v fun e w' => e = .returned (.bool false) ∧ Below v.heap.size v w') := Lib.hid (fun v => rfeb_is a y1 m1 d1 false v ⟨u1, u2, u3, u4, u5, u6⟩ ha hf1)
  have F2 : Hid (∀ v, Calls Tryz.prog 37 #[.int .i64 b, .agg #[.int .i64 y2, .int .i64 m2, .int .i64 d2]] v fun e w' => e = .returned (.bool g2) ∧ Below v.heap.size v w') := Lib.hid (fun v => rfeb_is b y2 m2 d2 g2 v ⟨v1, v2, v3, v4, v5, v6⟩ hb hf2)
  clear hf1 hf2
  have t1 : (d1 == 31) = false := beq_eq_false_iff_ne.2 n1
  have t3 : (d1 == 30) = false := beq_eq_false_iff_ne.2 n3
  have t2 : (d2 == 31) = false := beq_eq_false_iff_ne.2 n2
  clear ha hb hab u6 v6
  go_enter Tryz.func20, Tryz.ntmps20
  go_wp2_with fail
  replace H := (H.pair (w.heap.size) (.int .i64 0) (.int .i64 0) 29 rfl)
  (with_reducible refine (rwhy_any_ty a b 0 _ W1.out).mono ?_)
  rintro e w1 ⟨rfl, hb⟩
  replace H := H.below hb
  clear hb
  go_wp2_with fail
  (with_reducible refine (rof_any a y1 m1 d1 0 _ O1.out).mono ?_)
  rintro e w2 ⟨rfl, hb⟩
  replace H := H.below hb
  clear hb
  go_wp2_with fail
  replace H := (H.triple (w2.heap.size) (.int .i64 y1) (.int .i64 m1) (.int .i64 d1) 78 rfl)
  (with_reducible refine (rof_any b y2 m2 d2 0 _ O2.out).mono ?_)
  rintro e w3 ⟨rfl, hb⟩
  replace H := H.below hb
  clear hb
  have ca0 := H.cell (w2.heap.size) 0 (.int .i64 y1) (List.Mem.head _)
  have ca1 := H.cell (w2.heap.size) 1 (.int .i64 m1) (List.Mem.tail _ (List.Mem.head _))
  have ca2 := H.cell (w2.heap.size) 2 (.int .i64 d1) (List.Mem.tail _ (List.Mem.tail _ (List.Mem.head _)))
  have la := H.lt (w2.heap.size) 0 (.int .i64 y1) (List.Mem.head _)
  go_wp2_with fail
  clear ca0 ca1 ca2 la
  replace H := (H.triple (w3.heap.size) (.int .i64 y2) (.int .i64 m2) (.int .i64 d2) 78 rfl)
  (with_reducible refine (F1.out _).mono ?_)
  rintro e w4 ⟨rfl, hb⟩
  replace H := H.below hb
  clear hb
  have ca0 := H.cell (w2.heap.size) 0 (.int .i64 y1) (List.Mem.tail _ (List.Mem.tail _ (List.Mem.tail _ (List.Mem.tail _ (List.Mem.tail _ (List.Mem.tail _ (List.Mem.head _)))))))
  have ca1 := H.cell (w2.heap.size) 1 (.int .i64 m1) (List.Mem.tail _ (List.Mem.tail _ (List.Mem.tail _ (List.Mem.tail _ (List.Mem.tail _ (List.Mem.tail _ (List.Mem.tail _ (List.Mem.head _))))))))
  have ca2 := H.cell (w2.heap.size) 2 (.int .i64 d1) (List.Mem.tail _ (List.Mem.tail _ (List.Mem.tail _ (List.Mem.tail _ (List.Mem.tail _ (List.Mem.tail _ (List.Mem.tail _ (List.Mem.tail _ (List.Mem.head _)))))))))
  have la := H.lt (w2.heap.size) 0 (.int .i64 y1) (List.Mem.tail _ (List.Mem.tail _ (List.Mem.tail _ (List.Mem.tail _ (List.Mem.tail _ (List.Mem.tail _ (List.Mem.head _)))))))
  have cb0 := H.cell (w3.heap.size) 0 (.int .i64 y2) (List.Mem.head _)
  have cb1 := H.cell (w3.heap.size) 1 (.int .i64 m2) (List.Mem.tail _ (List.Mem.head _))
  have cb2 := H.cell (w3.heap.size) 2 (.int .i64 d2) (List.Mem.tail _ (List.Mem.tail _ (List.Mem.head _)))
  have lb := H.lt (w3.heap.size) 0 (.int .i64 y2) (List.Mem.head _)
  go_wp2_with fail
  clear ca0 ca1 ca2 la cb0 cb1 cb2 lb
  (with_reducible refine (F2.out _).mono ?_)
  rintro e w5 ⟨rfl, hb⟩
  replace H := H.below hb
  clear hb
  have ca0 := H.cell (w2.heap.size) 0 (.int .i64 y1) (List.Mem.tail _ (List.Mem.tail _ (List.Mem.tail _ (List.Mem.tail _ (List.Mem.tail _ (List.Mem.tail _ (List.Mem.head _)))))))
  have ca1 := H.cell (w2.heap.size) 1 (.int .i64 m1) (List.Mem.tail _ (List.Mem.tail _ (List.Mem.tail _ (List.Mem.tail _ (List.Mem.tail _ (List.Mem.tail _ (List.Mem.tail _ (List.Mem.head _))))))))
  have ca2 := H.cell (w2.heap.size) 2 (.int .i64 d1) (List.Mem.tail _ (List.Mem.tail _ (List.Mem.tail _ (List.Mem.tail _ (List.Mem.tail _ (List.Mem.tail _ (List.Mem.tail _ (List.Mem.tail _ (List.Mem.head _)))))))))
  have la := H.lt (w2.heap.size) 0 (.int .i64 y1) (List.Mem.tail _ (List.Mem.tail _ (List.Mem.tail _ (List.Mem.tail _ (List.Mem.tail _ (List.Mem.tail _ (List.Mem.head _)))))))
  have cb0 := H.cell (w3.heap.size) 0 (.int .i64 y2) (List.Mem.head _)
  have cb1 := H.cell (w3.heap.size) 1 (.int .i64 m2) (List.Mem.tail _ (List.Mem.head _))
  have cb2 := H.cell (w3.heap.size) 2 (.int .i64 d2) (List.Mem.tail _ (List.Mem.tail _ (List.Mem.head _)))
  have lb := H.lt (w3.heap.size) 0 (.int .i64 y2) (List.Mem.head _)
  go_wp2_with fail
  clear ca0 ca1 ca2 la cb0 cb1 cb2 lb
  (with_reducible refine (rpart_any y1 m1 d1 y2 m2 d2 d1 d2 p q _ ⟨u1, u2⟩ ⟨v1, v2⟩ ⟨u3, u4⟩ ⟨v3, v4⟩ (by omega) (by omega) HP.out HQ.out).mono ?_)
  rintro e w6 ⟨rfl, hb⟩
  replace H := H.below hb
  clear hb
  have cz0 := H.cell (w.heap.size) 0 (.int .i64 0) (List.Mem.tail _ (List.Mem.tail _ (List.Mem.tail _ (List.Mem.tail _ (List.Mem.tail _ (List.Mem.tail _ (List.Mem.tail _ (List.Mem.tail _ (List.Mem.tail _ (List.Mem.tail _ (List.Mem.tail _ (List.Mem.tail _ (List.Mem.head _)))))))))))))
  have cz1 := H.cell (w.heap.size) 1 (.int .i64 0) (List.Mem.tail _ (List.Mem.tail _ (List.Mem.tail _ (List.Mem.tail _ (List.Mem.tail _ (List.Mem.tail _ (List.Mem.tail _ (List.Mem.tail _ (List.Mem.tail _ (List.Mem.tail _ (List.Mem.tail _ (List.Mem.tail _ (List.Mem.tail _ (List.Mem.head _))))))))))))))
  have lz := H.lt (w.heap.size) 0 (.int .i64 0) (List.Mem.tail _ (List.Mem.tail _ (List.Mem.tail _ (List.Mem.tail _ (List.Mem.tail _ (List.Mem.tail _ (List.Mem.tail _ (List.Mem.tail _ (List.Mem.tail _ (List.Mem.tail _ (List.Mem.tail _ (List.Mem.tail _ (List.Mem.head _)))))))))))))
  have fz0 := H.frozen (w.heap.size) 0 (List.Mem.tail _ (List.Mem.tail _ (List.Mem.tail _ (List.Mem.tail _ (List.Mem.tail _ (List.Mem.tail _ (List.Mem.tail _ (List.Mem.tail _ (List.Mem.tail _ (List.Mem.tail _ (List.Mem.tail _ (List.Mem.tail _ (List.Mem.tail _ (List.Mem.tail _ (List.Mem.head _)))))))))))))))
  have fz1 := H.frozen (w.heap.size) 1 (List.Mem.tail _ (List.Mem.tail _ (List.Mem.tail _ (List.Mem.tail _ (List.Mem.tail _ (List.Mem.tail _ (List.Mem.tail _ (List.Mem.tail _ (List.Mem.tail _ (List.Mem.tail _ (List.Mem.tail _ (List.Mem.tail _ (List.Mem.tail _ (List.Mem.tail _ (List.Mem.tail _ (List.Mem.head _))))))))))))))))
  have HK := H.old
  clear H
  go_wp2_with fail
  exact bodyPost_ret (v := .tuple #[.agg #[.int .i64 p, .int .i64 q], .int .i64 0]) (by simp [results, Tryz.results20, go_sem, cz0, cz1]) rfl ⟨rfl, (HK.setCell (by simp <;> omega) _).setCell (by simp <;> omega) _⟩

set_option maxHeartbeats 1000000 in
theorem rus_tt (a b y1 m1 d1 y2 m2 d2 p q : Int) (w : World) (h1 : may y1 m1 d1) (ha : nb y1 m1 d1 = a) (h2 : may y2 m2 d2) (hb : nb y2 m2 d2 = b) (hab : a ≤ b) (hf1 : febB y1 m1 d1 = true) (hf2 : febB y2 m2 d2 = true) (hp : rN (px y1 m1 30 y2 m2 30) 360 = p) (hq : rD (px y1 m1 30 y2 m2 30) 360 = q) :
    Calls Tryz.prog 20 #[.int .i64 a, .int .i64 b, .bool true] w fun e' w' => e' = .returned (.tuple #[.agg #[.int .i64 p, .int .i64 q], .int .i64 0]) ∧ Below w.heap.size w w' := by
  have H := Held.start w
  have b1 := nb_bd _ _ _ h1
  have b2 := nb_bd _ _ _ h2
  rw [ha] at b1
  rw [hb] at b2
  have W1 : Hid (WhyIs_ty a b 0) := Lib.hid (Or.inr (Or.inr ⟨b1, b2, hab, rfl⟩))
  have O1 : Hid (DayIs a y1 m1 d1 0) := Lib.hid (Or.inl ⟨h1, ha, rfl⟩)
  have O2 : Hid (DayIs b y2 m2 d2 0) := Lib.hid (Or.inl ⟨h2, hb, rfl⟩)
  have l1 := ln_le y1 m1
  have l2 := ln_le y2 m2
  obtain ⟨u1, u2, u3, u4, u5, u6⟩ := h1
  obtain ⟨v1, v2, v3, v4, v5, v6⟩ := h2
  have w1 : 0 ≤ d1 ∧ d1 ≤ 31 := by omega
  have w2 : 0 ≤ d2 ∧ d2 ≤ 31 := by omega
  clear l1 l2
  have HP := Lib.hid hp
  have HQ := Lib.hid hq
  clear hp hq
  have F1 : Hid (∀ v, Calls Tryz.prog 37 #[.int .i64 a, .agg #[.int .i64 y1, .int .i64 m1, .int .i64 d1]] v fun e w' => e = .returned (.bool true) ∧ Below v.heap.size v w') := Lib.hid (fun v => rfeb_is a y1 m1 d1 true v ⟨u1, u2, u3, u4, u5, u6⟩ ha hf1)
  have F2 : Hid (∀ v, Calls Tryz.prog 37 #[.int .i64 b, .agg #[.int .i64 y2, .int .i64 m2, .int .i64 d2]] v fun e w' => e = .returned (.bool true) ∧ Below v.heap.size v w') := Lib.hid (fun v => rfeb_is b y2 m2 d2 true v ⟨v1, v2, v3, v4, v5, v6⟩ hb hf2)
  clear hf1 hf2
  clear ha hb hab u6 v6
  go_enter Tryz.func20, Tryz.ntmps20
  go_wp2_with fail
  replace H := (H.pair (w.heap.size) (.int .i64 0) (.int .i64 0) 29 rfl)
  (with_reducible refine (rwhy_any_ty a b 0 _ W1.out).mono ?_)
  rintro e w1 ⟨rfl, hb⟩
  replace H := H.below hb
  clear hb
  go_wp2_with fail
  (with_reducible refine (rof_any a y1 m1 d1 0 _ O1.out).mono ?_)
  rintro e w2 ⟨rfl, hb⟩
  replace H := H.below hb
  clear hb
  go_wp2_with fail
  replace H := (H.triple (w2.heap.size) (.int .i64 y1) (.int .i64 m1) (.int .i64 d1) 78 rfl)
  (with_reducible refine (rof_any b y2 m2 d2 0 _ O2.out).mono ?_)
  rintro e w3 ⟨rfl, hb⟩
  replace H := H.below hb
  clear hb
  have ca0 := H.cell (w2.heap.size) 0 (.int .i64 y1) (List.Mem.head _)
  have ca1 := H.cell (w2.heap.size) 1 (.int .i64 m1) (List.Mem.tail _ (List.Mem.head _))
  have ca2 := H.cell (w2.heap.size) 2 (.int .i64 d1) (List.Mem.tail _ (List.Mem.tail _ (List.Mem.head _)))
  have la := H.lt (w2.heap.size) 0 (.int .i64 y1) (List.Mem.head _)
  go_wp2_with fail
  clear ca0 ca1 ca2 la
  replace H := (H.triple (w3.heap.size) (.int .i64 y2) (.int .i64 m2) (.int .i64 d2) 78 rfl)
  (with_reducible refine (F1.out _).mono ?_)
  rintro e w4 ⟨rfl, hb⟩
  replace H := H.below hb
  clear hb
  have ca0 := H.cell (w2.heap.size) 0 (.int .i64 y1) (List.Mem.tail _ (List.Mem.tail _ (List.Mem.tail _ (List.Mem.tail _ (List.Mem.tail _ (List.Mem.tail _ (List.Mem.head _)))))))
  have ca1 := H.cell (w2.heap.size) 1 (.int .i64 m1) (List.Mem.tail _ (List.Mem.tail _ (List.Mem.tail _ (List.Mem.tail _ (List.Mem.tail _ (List.Mem.tail _ (List.Mem.tail _ (List.Mem.head _))))))))
  have ca2 := H.cell (w2.heap.size) 2 (.int .i64 d1) (List.Mem.tail _ (List.Mem.tail _ (List.Mem.tail _ (List.Mem.tail _ (List.Mem.tail _ (List.Mem.tail _ (List.Mem.tail _ (List.Mem.tail _ (List.Mem.head _)))))))))
  have la := H.lt (w2.heap.size) 0 (.int .i64 y1) (List.Mem.tail _ (List.Mem.tail _ (List.Mem.tail _ (List.Mem.tail _ (List.Mem.tail _ (List.Mem.tail _ (List.Mem.head _)))))))
  have cb0 := H.cell (w3.heap.size) 0 (.int .i64 y2) (List.Mem.head _)
  have cb1 := H.cell (w3.heap.size) 1 (.int .i64 m2) (List.Mem.tail _ (List.Mem.head _))
  have cb2 := H.cell (w3.heap.size) 2 (.int .i64 d2) (List.Mem.tail _ (List.Mem.tail _ (List.Mem.head _)))
  have lb := H.lt (w3.heap.size) 0 (.int .i64 y2) (List.Mem.head _)
  go_wp2_with fail
  clear ca0 ca1 ca2 la cb0 cb1 cb2 lb
  (with_reducible refine (F2.out _).mono ?_)
  rintro e w5 ⟨rfl, hb⟩
  replace H := H.below hb
  clear hb
  have ca0 := H.cell (w2.heap.size) 0 (.int .i64 y1) (List.Mem.tail _ (List.Mem.tail _ (List.Mem.tail _ (List.Mem.tail _ (List.Mem.tail _ (List.Mem.tail _ (List.Mem.head _)))))))
  have ca1 := H.cell (w2.heap.size) 1 (.int .i64 m1) (List.Mem.tail _ (List.Mem.tail _ (List.Mem.tail _ (List.Mem.tail _ (List.Mem.tail _ (List.Mem.tail _ (List.Mem.tail _ (List.Mem.head _))))))))
  have ca2 := H.cell (w2.heap.size) 2 (.int .i64 d1) (List.Mem.tail _ (List.Mem.tail _ (List.Mem.tail _ (List.Mem.tail _ (List.Mem.tail _ (List.Mem.tail _ (List.Mem.tail _ (List.Mem.tail _ (List.Mem.head _)))))))))
  have la := H.lt (w2.heap.size) 0 (.int .i64 y1) (List.Mem.tail _ (List.Mem.tail _ (List.Mem.tail _ (List.Mem.tail _ (List.Mem.tail _ (List.Mem.tail _ (List.Mem.head _)))))))
  have cb0 := H.cell (w3.heap.size) 0 (.int .i64 y2) (List.Mem.head _)
  have cb1 := H.cell (w3.heap.size) 1 (.int .i64 m2) (List.Mem.tail _ (List.Mem.head _))
  have cb2 := H.cell (w3.heap.size) 2 (.int .i64 d2) (List.Mem.tail _ (List.Mem.tail _ (List.Mem.head _)))
  have lb := H.lt (w3.heap.size) 0 (.int .i64 y2) (List.Mem.head _)
  go_wp2_with fail
  clear ca0 ca1 ca2 la cb0 cb1 cb2 lb
  (with_reducible refine (rpart_any y1 m1 d1 y2 m2 d2 30 30 p q _ ⟨u1, u2⟩ ⟨v1, v2⟩ ⟨u3, u4⟩ ⟨v3, v4⟩ (by omega) (by omega) HP.out HQ.out).mono ?_)
  rintro e w6 ⟨rfl, hb⟩
  replace H := H.below hb
  clear hb
  have cz0 := H.cell (w.heap.size) 0 (.int .i64 0) (List.Mem.tail _ (List.Mem.tail _ (List.Mem.tail _ (List.Mem.tail _ (List.Mem.tail _ (List.Mem.tail _ (List.Mem.tail _ (List.Mem.tail _ (List.Mem.tail _ (List.Mem.tail _ (List.Mem.tail _ (List.Mem.tail _ (List.Mem.head _)))))))))))))
  have cz1 := H.cell (w.heap.size) 1 (.int .i64 0) (List.Mem.tail _ (List.Mem.tail _ (List.Mem.tail _ (List.Mem.tail _ (List.Mem.tail _ (List.Mem.tail _ (List.Mem.tail _ (List.Mem.tail _ (List.Mem.tail _ (List.Mem.tail _ (List.Mem.tail _ (List.Mem.tail _ (List.Mem.tail _ (List.Mem.head _))))))))))))))
  have lz := H.lt (w.heap.size) 0 (.int .i64 0) (List.Mem.tail _ (List.Mem.tail _ (List.Mem.tail _ (List.Mem.tail _ (List.Mem.tail _ (List.Mem.tail _ (List.Mem.tail _ (List.Mem.tail _ (List.Mem.tail _ (List.Mem.tail _ (List.Mem.tail _ (List.Mem.tail _ (List.Mem.head _)))))))))))))
  have fz0 := H.frozen (w.heap.size) 0 (List.Mem.tail _ (List.Mem.tail _ (List.Mem.tail _ (List.Mem.tail _ (List.Mem.tail _ (List.Mem.tail _ (List.Mem.tail _ (List.Mem.tail _ (List.Mem.tail _ (List.Mem.tail _ (List.Mem.tail _ (List.Mem.tail _ (List.Mem.tail _ (List.Mem.tail _ (List.Mem.head _)))))))))))))))
  have fz1 := H.frozen (w.heap.size) 1 (List.Mem.tail _ (List.Mem.tail _ (List.Mem.tail _ (List.Mem.tail _ (List.Mem.tail _ (List.Mem.tail _ (List.Mem.tail _ (List.Mem.tail _ (List.Mem.tail _ (List.Mem.tail _ (List.Mem.tail _ (List.Mem.tail _ (List.Mem.tail _ (List.Mem.tail _ (List.Mem.tail _ (List.Mem.head _))))))))))))))))
  have HK := H.old
  clear H
  go_wp2_with fail
  exact bodyPost_ret (v := .tuple #[.agg #[.int .i64 p, .int .i64 q], .int .i64 0]) (by simp [results, Tryz.results20, go_sem, cz0, cz1]) rfl ⟨rfl, (HK.setCell (by simp <;> omega) _).setCell (by simp <;> omega) _⟩

set_option maxHeartbeats 1000000 in
theorem rus_tf31 (a b y1 m1 d1 y2 m2 p q : Int) (w : World) (h1 : may y1 m1 d1) (ha : nb y1 m1 d1 = a) (h2 : may y2 m2 31) (hb : nb y2 m2 31 = b) (hab : a ≤ b) (hf1 : febB y1 m1 d1 = true) (hf2 : febB y2 m2 31 = false) (hp : rN (px y1 m1 30 y2 m2 30) 360 = p) (hq : rD (px y1 m1 30 y2 m2 30) 360 = q) :
    Calls Tryz.prog 20 #[.int .i64 a, .int .i64 b, .bool true] w fun e' w' => e' = .returned (.tuple #[.agg #[.int .i64 p, .int .i64 q], .int .i64 0]) ∧ Below w.heap.size w w' := by
  have H := Held.start w
  have b1 := nb_bd _ _ _ h1
  have b2 := nb_bd _ _ _ h2
  rw [ha] at b1
  rw [hb] at b2
  have W1 : Hid (WhyIs_ty a b 0) := Lib.hid (Or.inr (Or.inr ⟨b1, b2, hab, rfl⟩))
  have O1 : Hid (DayIs a y1 m1 d1 0) := Lib.hid (Or.inl ⟨h1, ha, rfl⟩)
  have O2 : Hid (DayIs b y2 m2 31 0) := Lib.hid (Or.inl ⟨h2, hb, rfl⟩)
  have l1 := ln_le y1 m1
  have l2 := ln_le y2 m2
  obtain ⟨u1, u2, u3, u4, u5, u6⟩ := h1
  obtain ⟨v1, v2, v3, v4, v5, v6⟩ := h2
  have w1 : 0 ≤ d1 ∧ d1 ≤ 31 := by omega
  have w2 : 0 ≤ 31 ∧ 31 ≤ 31 := by omega
  clear l1 l2
  have HP := Lib.hid hp
  have HQ := Lib.hid hq
  clear hp hq
  have F1 : Hid (∀ v, Calls Tryz.prog 37 #[.int .i64 a, .agg #[.int .i64 y1, .int .i64 m1, .int .i64 d1]] v fun e w' => e = .returned (.bool true) ∧ Below v.heap.size v w') := Lib.hid (fun v => rfeb_is a y1 m1 d1 true v ⟨u1, u2, u3, u4, u5, u6⟩ ha hf1)
  have F2 : Hid (∀ v, Calls Tryz.prog 37 #[.int .i64 b, .agg #[.int .i64 y2, .int .i64 m2, .int .i64 31]] v fun e w' => e = .returned (.bool false) ∧ Below v.heap.size v w') := Lib.hid (fun v => rfeb_is b y2 m2 31 false v ⟨v1, v2, v3, v4, v5, v6⟩ hb hf2)
  clear hf1 hf2
  clear ha hb hab u6 v6
  go_enter Tryz.func20, Tryz.ntmps20
  go_wp2_with fail
  replace H := (H.pair (w.heap.size) (.int .i64 0) (.int .i64 0) 29 rfl)
  (with_reducible refine (rwhy_any_ty a b 0 _ W1.out).mono ?_)
  rintro e w1 ⟨rfl, hb⟩
  replace H := H.below hb
  clear hb
  go_wp2_with fail
  (with_reducible refine (rof_any a y1 m1 d1 0 _ O1.out).mono ?_)
  rintro e w2 ⟨rfl, hb⟩
  replace H := H.below hb
  clear hb
  go_wp2_with fail
  replace H := (H.triple (w2.heap.size) (.int .i64 y1) (.int .i64 m1) (.int .i64 d1) 78 rfl)
  (with_reducible refine (rof_any b y2 m2 31 0 _ O2.out).mono ?_)
  rintro e w3 ⟨rfl, hb⟩
  replace H := H.below hb
  clear hb
  have ca0 := H.cell (w2.heap.size) 0 (.int .i64 y1) (List.Mem.head _)
  have ca1 := H.cell (w2.heap.size) 1 (.int .i64 m1) (List.Mem.tail _ (List.Mem.head _))
  have ca2 := H.cell (w2.heap.size) 2 (.int .i64 d1) (List.Mem.tail _ (List.Mem.tail _ (List.Mem.head _)))
  have la := H.lt (w2.heap.size) 0 (.int .i64 y1) (List.Mem.head _)
  go_wp2_with fail
  clear ca0 ca1 ca2 la
  replace H := (H.triple (w3.heap.size) (.int .i64 y2) (.int .i64 m2) (.int .i64 31) 78 rfl)
  (with_reducible refine (F1.out _).mono ?_)
  rintro e w4 ⟨rfl, hb⟩
  replace H := H.below hb
  clear hb
  have ca0 := H.cell (w2.heap.size) 0 (.int .i64 y1) (List.Mem.tail _ (List.Mem.tail _ (List.Mem.tail _ (List.Mem.tail _ (List.Mem.tail _ (List.Mem.tail _ (List.Mem.head _)))))))
  have ca1 := H.cell (w2.heap.size) 1 (.int .i64 m1) (List.Mem.tail _ (List.Mem.tail _ (List.Mem.tail _ (List.Mem.tail _ (List.Mem.tail _ (List.Mem.tail _ (List.Mem.tail _ (List.Mem.head _))))))))
  have ca2 := H.cell (w2.heap.size) 2 (.int .i64 d1) (List.Mem.tail _ (List.Mem.tail _ (List.Mem.tail _ (List.Mem.tail _ (List.Mem.tail _ (List.Mem.tail _ (List.Mem.tail _ (List.Mem.tail _ (List.Mem.head _)))))))))
  have la := H.lt (w2.heap.size) 0 (.int .i64 y1) (List.Mem.tail _ (List.Mem.tail _ (List.Mem.tail _ (List.Mem.tail _ (List.Mem.tail _ (List.Mem.tail _ (List.Mem.head _)))))))
  have cb0 := H.cell (w3.heap.size) 0 (.int .i64 y2) (List.Mem.head _)
  have cb1 := H.cell (w3.heap.size) 1 (.int .i64 m2) (List.Mem.tail _ (List.Mem.head _))
  have cb2 := H.cell (w3.heap.size) 2 (.int .i64 31) (List.Mem.tail _ (List.Mem.tail _ (List.Mem.head _)))
  have lb := H.lt (w3.heap.size) 0 (.int .i64 y2) (List.Mem.head _)
  go_wp2_with fail
  clear ca0 ca1 ca2 la cb0 cb1 cb2 lb
  (with_reducible refine (F2.out _).mono ?_)
  rintro e w5 ⟨rfl, hb⟩
  replace H := H.below hb
  clear hb
  have ca0 := H.cell (w2.heap.size) 0 (.int .i64 y1) (List.Mem.tail _ (List.Mem.tail _ (List.Mem.tail _ (List.Mem.tail _ (List.Mem.tail _ (List.Mem.tail _ (List.Mem.head _)))))))
  have ca1 := H.cell (w2.heap.size) 1 (.int .i64 m1) (List.Mem.tail _ (List.Mem.tail _ (List.Mem.tail _ (List.Mem.tail _ (List.Mem.tail _ (List.Mem.tail _ (List.Mem.tail _ (List.Mem.head _))))))))
  have ca2 := H.cell (w2.heap.size) 2 (.int .i64 d1) (List.Mem.tail _ (List.Mem.tail _ (List.Mem.tail _ (List.Mem.tail _ (List.Mem.tail _ (List.Mem.tail _ (List.Mem.tail _ (List.Mem.tail _ (List.Mem.head _)))))))))
  have la := H.lt (w2.heap.size) 0 (.int .i64 y1) (List.Mem.tail _ (List.Mem.tail _ (List.Mem.tail _ (List.Mem.tail _ (List.Mem.tail _ (List.Mem.tail _ (List.Mem.head _)))))))
  have cb0 := H.cell (w3.heap.size) 0 (.int .i64 y2) (List.Mem.head _)
  have cb1 := H.cell (w3.heap.size) 1 (.int .i64 m2) (List.Mem.tail _ (List.Mem.head _))
  have cb2 := H.cell (w3.heap.size) 2 (.int .i64 31) (List.Mem.tail _ (List.Mem.tail _ (List.Mem.head _)))
  have lb := H.lt (w3.heap.size) 0 (.int .i64 y2) (List.Mem.head _)
  go_wp2_with fail
  clear ca0 ca1 ca2 la cb0 cb1 cb2 lb
  (with_reducible refine (rpart_any y1 m1 d1 y2 m2 31 30 30 p q _ ⟨u1, u2⟩ ⟨v1, v2⟩ ⟨u3, u4⟩ ⟨v3, v4⟩ (by omega) (by omega) HP.out HQ.out).mono ?_)
  rintro e w6 ⟨rfl, hb⟩
  replace H := H.below hb
  clear hb
  have cz0 := H.cell (w.heap.size) 0 (.int .i64 0) (List.Mem.tail _ (List.Mem.tail _ (List.Mem.tail _ (List.Mem.tail _ (List.Mem.tail _ (List.Mem.tail _ (List.Mem.tail _ (List.Mem.tail _ (List.Mem.tail _ (List.Mem.tail _ (List.Mem.tail _ (List.Mem.tail _ (List.Mem.head _)))))))))))))
  have cz1 := H.cell (w.heap.size) 1 (.int .i64 0) (List.Mem.tail _ (List.Mem.tail _ (List.Mem.tail _ (List.Mem.tail _ (List.Mem.tail _ (List.Mem.tail _ (List.Mem.tail _ (List.Mem.tail _ (List.Mem.tail _ (List.Mem.tail _ (List.Mem.tail _ (List.Mem.tail _ (List.Mem.tail _ (List.Mem.head _))))))))))))))
  have lz := H.lt (w.heap.size) 0 (.int .i64 0) (List.Mem.tail _ (List.Mem.tail _ (List.Mem.tail _ (List.Mem.tail _ (List.Mem.tail _ (List.Mem.tail _ (List.Mem.tail _ (List.Mem.tail _ (List.Mem.tail _ (List.Mem.tail _ (List.Mem.tail _ (List.Mem.tail _ (List.Mem.head _)))))))))))))
  have fz0 := H.frozen (w.heap.size) 0 (List.Mem.tail _ (List.Mem.tail _ (List.Mem.tail _ (List.Mem.tail _ (List.Mem.tail _ (List.Mem.tail _ (List.Mem.tail _ (List.Mem.tail _ (List.Mem.tail _ (List.Mem.tail _ (List.Mem.tail _ (List.Mem.tail _ (List.Mem.tail _ (List.Mem.tail _ (List.Mem.head _)))))))))))))))
  have fz1 := H.frozen (w.heap.size) 1 (List.Mem.tail _ (List.Mem.tail _ (List.Mem.tail _ (List.Mem.tail _ (List.Mem.tail _ (List.Mem.tail _ (List.Mem.tail _ (List.Mem.tail _ (List.Mem.tail _ (List.Mem.tail _ (List.Mem.tail _ (List.Mem.tail _ (List.Mem.tail _ (List.Mem.tail _ (List.Mem.tail _ (List.Mem.head _))))))))))))))))
  have HK := H.old
  clear H
  go_wp2_with fail
  exact bodyPost_ret (v := .tuple #[.agg #[.int .i64 p, .int .i64 q], .int .i64 0]) (by simp [results, Tryz.results20, go_sem, cz0, cz1]) rfl ⟨rfl, (HK.setCell (by simp <;> omega) _).setCell (by simp <;> omega) _⟩

set_option maxHeartbeats 1000000 in
theorem rus_tfd2 (a b y1 m1 d1 y2 m2 d2 p q : Int) (w : World) (h1 : may y1 m1 d1) (ha : nb y1 m1 d1 = a) (h2 : may y2 m2 d2) (hb : nb y2 m2 d2 = b) (hab : a ≤ b) (hf1 : febB y1 m1 d1 = true) (hf2 : febB y2 m2 d2 = false) (n2 : d2 ≠ 31) (hp : rN (px y1 m1 30 y2 m2 d2) 360 = p) (hq : rD (px y1 m1 30 y2 m2 d2) 360 = q) :
    Calls Tryz.prog 20 #[.int .i64 a, .int .i64 b, .bool true] w fun e' w' => e' = .returned (.tuple #[.agg #[.int .i64 p, .int .i64 q], .int .i64 0]) ∧ Below w.heap.size w w' := by
  have H := Held.start w
  have b1 := nb_bd _ _ _ h1
  have b2 := nb_bd _ _ _ h2
  rw [ha] at b1
  rw [hb] at b2
  have W1 : Hid (WhyIs_ty a b 0) := Lib.hid (Or.inr (Or.inr ⟨b1, b2, hab, rfl⟩))
  have O1 : Hid (DayIs a y1 m1 d1 0) := Lib.hid (Or.inl ⟨h1, ha, rfl⟩)
  have O2 : Hid (DayIs b y2 m2 d2 0) := Lib.hid (Or.inl ⟨h2, hb, rfl⟩)
  have l1 := ln_le y1 m1
  have l2 := ln_le y2 m2
  obtain ⟨u1, u2, u3, u4, u5, u6⟩ := h1
  obtain ⟨v1, v2, v3, v4, v5, v6⟩ := h2
  have w1 : 0 ≤ d1 ∧ d1 ≤ 31 := by omega
  have w2 : 0 ≤ d2 ∧ d2 ≤ 31 := by omega
  clear l1 l2
  have HP := Lib.hid hp
  have HQ := Lib.hid hq
  clear hp hq
  have F1 : Hid (∀ v, Calls Tryz.prog 37 #[.int .i64 a, .agg #[.int .i64 y1, .int .i64 m1, .int .i64 d1]] v fun e w' => e = .returned (.bool true) ∧ Below v.heap.size v w') := Lib.hid (fun v => rfeb_is a y1 m1 d1 true v ⟨u1, u2, u3, u4, u5, u6⟩ ha hf1)
  have F2 : Hid (∀ v, Calls Tryz.prog 37 #[.int .i64 b, .agg #[.int .i64 y2, .int .i64 m2, .int .i64 d2]] v fun e w' => e = .returned (.bool false) ∧ Below v.heap.size v w') := Lib.hid (fun v => rfeb_is b y2 m2 d2 false v ⟨v1, v2, v3, v4, v5, v6⟩ hb hf2)
  clear hf1 hf2
  have t2 : (d2 == 31) = false := beq_eq_false_iff_ne.2 n2
  clear ha hb hab u6 v6
  go_enter Tryz.func20, Tryz.ntmps20
  go_wp2_with fail
  replace H := (H.pair (w.heap.size) (.int .i64 0) (.int .i64 0) 29 rfl)
  (with_reducible refine (rwhy_any_ty a b 0 _ W1.out).mono ?_)
  rintro e w1 ⟨rfl, hb⟩
  replace H := H.below hb
  clear hb
  go_wp2_with fail
  (with_reducible refine (rof_any a y1 m1 d1 0 _ O1.out).mono ?_)
  rintro e w2 ⟨rfl, hb⟩
  replace H := H.below hb
  clear hb
  go_wp2_with fail
  replace H := (H.triple (w2.heap.size) (.int .i64 y1) (.int .i64 m1) (.int .i64 d1) 78 rfl)
  (with_reducible refine (rof_any b y2 m2 d2 0 _ O2.out).mono ?_)
  rintro e w3 ⟨rfl, hb⟩
  replace H := H.below hb
  clear hb
  have ca0 := H.cell (w2.heap.size) 0 (.int .i64 y1) (List.Mem.head _)
  have ca1 := H.cell (w2.heap.size) 1 (.int .i64 m1) (List.Mem.tail _ (List.Mem.head _))
  have ca2 := H.cell (w2.heap.size) 2 (.int .i64 d1) (List.Mem.tail _ (List.Mem.tail _ (List.Mem.head _)))
  have la := H.lt (w2.heap.size) 0 (.int .i64 y1) (List.Mem.head _)
  go_wp2_with fail
  clear ca0 ca1 ca2 la
  replace H := (H.triple (w3.heap.size) (.int .i64 y2) (.int .i64 m2) (.int .i64 d2) 78 rfl)
  (with_reducible refine (F1.out _).mono ?_)
  rintro e w4 ⟨rfl, hb⟩
  replace H := H.below hb
  clear hb
  have ca0 := H.cell (w2.heap.size) 0 (.int .i64 y1) (List.Mem.tail _ (List.Mem.tail _ (List.Mem.tail _ (List.Mem.tail _ (List.Mem.tail _ (List.Mem.tail _ (List.Mem.head _)))))))
  have ca1 := H.cell (w2.heap.size) 1 (.int .i64 m1) (List.Mem.tail _ (List.Mem.tail _ (List.Mem.tail _ (List.Mem.tail _ (List.Mem.tail _ (List.Mem.tail _ (List.Mem.tail _ (List.Mem.head _))))))))
  have ca2 := H.cell (w2.heap.size) 2 (.int .i64 d1) (List.Mem.tail _ (List.Mem.tail _ (List.Mem.tail _ (List.Mem.tail _ (List.Mem.tail _ (List.Mem.tail _ (List.Mem.tail _ (List.Mem.tail _ (List.Mem.head _)))))))))
  have la := H.lt (w2.heap.size) 0 (.int .i64 y1) (List.Mem.tail _ (List.Mem.tail _ (List.Mem.tail _ (List.Mem.tail _ (List.Mem.tail _ (List.Mem.tail _ (List.Mem.head _)))))))
  have cb0 := H.cell (w3.heap.size) 0 (.int .i64 y2) (List.Mem.head _)
  have cb1 := H.cell (w3.heap.size) 1 (.int .i64 m2) (List.Mem.tail _ (List.Mem.head _))
  have cb2 := H.cell (w3.heap.size) 2 (.int .i64 d2) (List.Mem.tail _ (List.Mem.tail _ (List.Mem.head _)))
  have lb := H.lt (w3.heap.size) 0 (.int .i64 y2) (List.Mem.head _)
  go_wp2_with fail
  clear ca0 ca1 ca2 la cb0 cb1 cb2 lb
  (with_reducible refine (F2.out _).mono ?_)
  rintro e w5 ⟨rfl, hb⟩
  replace H := H.below hb
  clear hb
  have ca0 := H.cell (w2.heap.size) 0 (.int .i64 y1) (List.Mem.tail _ (List.Mem.tail _ (List.Mem.tail _ (List.Mem.tail _ (List.Mem.tail _ (List.Mem.tail _ (List.Mem.head _)))))))
  have ca1 := H.cell (w2.heap.size) 1 (.int .i64 m1) (List.Mem.tail _ (List.Mem.tail _ (List.Mem.tail _ (List.Mem.tail _ (List.Mem.tail _ (List.Mem.tail _ (List.Mem.tail _ (List.Mem.head _))))))))
  have ca2 := H.cell (w2.heap.size) 2 (.int .i64 d1) (List.Mem.tail _ (List.Mem.tail _ (List.Mem.tail _ (List.Mem.tail _ (List.Mem.tail _ (List.Mem.tail _ (List.Mem.tail _ (List.Mem.tail _ (List.Mem.head _)))))))))
  have la := H.lt (w2.heap.size) 0 (.int .i64 y1) (List.Mem.tail _ (List.Mem.tail _ (List.Mem.tail _ (List.Mem.tail _ (List.Mem.tail _ (List.Mem.tail _ (List.Mem.head _)))))))
  have cb0 := H.cell (w3.heap.size) 0 (.int .i64 y2) (List.Mem.head _)
  have cb1 := H.cell (w3.heap.size) 1 (.int .i64 m2) (List.Mem.tail _ (List.Mem.head _))
  have cb2 := H.cell (w3.heap.size) 2 (.int .i64 d2) (List.Mem.tail _ (List.Mem.tail _ (List.Mem.head _)))
  have lb := H.lt (w3.heap.size) 0 (.int .i64 y2) (List.Mem.head _)
  go_wp2_with fail
  clear ca0 ca1 ca2 la cb0 cb1 cb2 lb
  (with_reducible refine (rpart_any y1 m1 d1 y2 m2 d2 30 d2 p q _ ⟨u1, u2⟩ ⟨v1, v2⟩ ⟨u3, u4⟩ ⟨v3, v4⟩ (by omega) (by omega) HP.out HQ.out).mono ?_)
  rintro e w6 ⟨rfl, hb⟩
  replace H := H.below hb
  clear hb
  have cz0 := H.cell (w.heap.size) 0 (.int .i64 0) (List.Mem.tail _ (List.Mem.tail _ (List.Mem.tail _ (List.Mem.tail _ (List.Mem.tail _ (List.Mem.tail _ (List.Mem.tail _ (List.Mem.tail _ (List.Mem.tail _ (List.Mem.tail _ (List.Mem.tail _ (List.Mem.tail _ (List.Mem.head _)))))))))))))
  have cz1 := H.cell (w.heap.size) 1 (.int .i64 0) (List.Mem.tail _ (List.Mem.tail _ (List.Mem.tail _ (List.Mem.tail _ (List.Mem.tail _ (List.Mem.tail _ (List.Mem.tail _ (List.Mem.tail _ (List.Mem.tail _ (List.Mem.tail _ (List.Mem.tail _ (List.Mem.tail _ (List.Mem.tail _ (List.Mem.head _))))))))))))))
  have lz := H.lt (w.heap.size) 0 (.int .i64 0) (List.Mem.tail _ (List.Mem.tail _ (List.Mem.tail _ (List.Mem.tail _ (List.Mem.tail _ (List.Mem.tail _ (List.Mem.tail _ (List.Mem.tail _ (List.Mem.tail _ (List.Mem.tail _ (List.Mem.tail _ (List.Mem.tail _ (List.Mem.head _)))))))))))))
  have fz0 := H.frozen (w.heap.size) 0 (List.Mem.tail _ (List.Mem.tail _ (List.Mem.tail _ (List.Mem.tail _ (List.Mem.tail _ (List.Mem.tail _ (List.Mem.tail _ (List.Mem.tail _ (List.Mem.tail _ (List.Mem.tail _ (List.Mem.tail _ (List.Mem.tail _ (List.Mem.tail _ (List.Mem.tail _ (List.Mem.head _)))))))))))))))
  have fz1 := H.frozen (w.heap.size) 1 (List.Mem.tail _ (List.Mem.tail _ (List.Mem.tail _ (List.Mem.tail _ (List.Mem.tail _ (List.Mem.tail _ (List.Mem.tail _ (List.Mem.tail _ (List.Mem.tail _ (List.Mem.tail _ (List.Mem.tail _ (List.Mem.tail _ (List.Mem.tail _ (List.Mem.tail _ (List.Mem.tail _ (List.Mem.head _))))))))))))))))
  have HK := H.old
  clear H
  go_wp2_with fail
  exact bodyPost_ret (v := .tuple #[.agg #[.int .i64 p, .int .i64 q], .int .i64 0]) (by simp [results, Tryz.results20, go_sem, cz0, cz1]) rfl ⟨rfl, (HK.setCell (by simp <;> omega) _).setCell (by simp <;> omega) _⟩

set_option maxHeartbeats 1000000 in
theorem rus_day (a b : Int) (t : Bool) (w : World) (h : (a < 1 ∨ 3652059 < a) ∨ (b < 1 ∨ 3652059 < b)) :
    Calls Tryz.prog 20 #[.int .i64 a, .int .i64 b, .bool t] w fun e' w' => e' = .returned (.tuple #[.agg #[.int .i64 0, .int .i64 0], .int .i64 3]) ∧ Below w.heap.size w w' := by
  have H := Held.start w
  have W1 : Hid (WhyIs_ty a b 3) := Lib.hid (Or.inl ⟨h, rfl⟩)
  go_enter Tryz.func20, Tryz.ntmps20
  go_wp2_with fail
  replace H := (H.pair (w.heap.size) (.int .i64 0) (.int .i64 0) 29 rfl)
  (with_reducible refine (rwhy_any_ty a b 3 _ W1.out).mono ?_)
  rintro e w1 ⟨rfl, hb⟩
  replace H := H.below hb
  clear hb
  have cz0 := H.cell (w.heap.size) 0 (.int .i64 0) (List.Mem.head _)
  have cz1 := H.cell (w.heap.size) 1 (.int .i64 0) (List.Mem.tail _ (List.Mem.head _))
  have lz := H.lt (w.heap.size) 0 (.int .i64 0) (List.Mem.head _)
  have fz0 := H.frozen (w.heap.size) 0 (List.Mem.tail _ (List.Mem.tail _ (List.Mem.head _)))
  have fz1 := H.frozen (w.heap.size) 1 (List.Mem.tail _ (List.Mem.tail _ (List.Mem.tail _ (List.Mem.head _))))
  have HK := H.old
  clear H
  go_wp2_with fail
  exact bodyPost_ret (v := .tuple #[.agg #[.int .i64 0, .int .i64 0], .int .i64 3]) (by simp [results, Tryz.results20, go_sem, cz0, cz1]) rfl ⟨rfl, (HK.setCell (by simp <;> omega) _).setCell (by simp <;> omega) _⟩

set_option maxHeartbeats 1000000 in
theorem rus_order (a b : Int) (t : Bool) (w : World) (h1 : 1 ≤ a ∧ a ≤ 3652059) (h2 : 1 ≤ b ∧ b ≤ 3652059) (h : b < a) :
    Calls Tryz.prog 20 #[.int .i64 a, .int .i64 b, .bool t] w fun e' w' => e' = .returned (.tuple #[.agg #[.int .i64 0, .int .i64 0], .int .i64 4]) ∧ Below w.heap.size w w' := by
  have H := Held.start w
  have W1 : Hid (WhyIs_ty a b 4) := Lib.hid (Or.inr (Or.inl ⟨h1, h2, h, rfl⟩))
  go_enter Tryz.func20, Tryz.ntmps20
  go_wp2_with fail
  replace H := (H.pair (w.heap.size) (.int .i64 0) (.int .i64 0) 29 rfl)
  (with_reducible refine (rwhy_any_ty a b 4 _ W1.out).mono ?_)
  rintro e w1 ⟨rfl, hb⟩
  replace H := H.below hb
  clear hb
  have cz0 := H.cell (w.heap.size) 0 (.int .i64 0) (List.Mem.head _)
  have cz1 := H.cell (w.heap.size) 1 (.int .i64 0) (List.Mem.tail _ (List.Mem.head _))
  have lz := H.lt (w.heap.size) 0 (.int .i64 0) (List.Mem.head _)
  have fz0 := H.frozen (w.heap.size) 0 (List.Mem.tail _ (List.Mem.tail _ (List.Mem.head _)))
  have fz1 := H.frozen (w.heap.size) 1 (List.Mem.tail _ (List.Mem.tail _ (List.Mem.tail _ (List.Mem.head _))))
  have HK := H.old
  clear H
  go_wp2_with fail
  exact bodyPost_ret (v := .tuple #[.agg #[.int .i64 0, .int .i64 0], .int .i64 4]) (by simp [results, Tryz.results20, go_sem, cz0, cz1]) rfl ⟨rfl, (HK.setCell (by simp <;> omega) _).setCell (by simp <;> omega) _⟩

theorem rus_any (a b p q c : Int) (t : Bool) (w : World) (h : PartIs (uX t) a b p q c) : Calls Tryz.prog 20 #[.int .i64 a, .int .i64 b, .bool t] w fun e' w' => e' = .returned (.tuple #[.agg #[.int .i64 p, .int .i64 q], .int .i64 c]) ∧ Below w.heap.size w w' := by
  rcases h with ⟨y1, m1, d1, y2, m2, d2, h1, ha, h2, hb, hab, hp, hq, rfl⟩ | ⟨h, rfl, rfl, rfl⟩ | ⟨h1, h2, h, rfl, rfl, rfl⟩
  · unfold uX usA usB usC cutD at hp hq
    cases t
    · simp only [Bool.false_eq_true, false_and, if_false] at hp hq
      by_cases n1 : d1 = 31
      · subst n1
        by_cases n2 : d2 = 31
        · subst n2
          exact rus_n3131 a b y1 m1 y2 m2 p q _ _ w h1 ha h2 hb hab rfl rfl (by simpa using hp) (by simpa using hq)
        · exact rus_n31d2 a b y1 m1 y2 m2 d2 p q _ _ w h1 ha h2 hb hab rfl rfl n2 (by simpa [n2] using hp) (by simpa [n2] using hq)
      · by_cases n3 : d1 = 30
        · subst n3
          by_cases n2 : d2 = 31
          · subst n2
            exact rus_n3031 a b y1 m1 y2 m2 p q _ _ w h1 ha h2 hb hab rfl rfl (by simpa using hp) (by simpa using hq)
          · exact rus_n30d2 a b y1 m1 y2 m2 d2 p q _ _ w h1 ha h2 hb hab rfl rfl n2 (by simpa [n2] using hp) (by simpa [n2] using hq)
        · skip
          by_cases n2 : d2 = 31
          · subst n2
            exact rus_nd131 a b y1 m1 d1 y2 m2 p q _ _ w h1 ha h2 hb hab rfl rfl n1 n3 (by simpa [n1, n3] using hp) (by simpa [n1, n3] using hq)
          · exact rus_nd1d2 a b y1 m1 d1 y2 m2 d2 p q _ _ w h1 ha h2 hb hab rfl rfl n1 n3 n2 (by simpa [n2, n1, n3] using hp) (by simpa [n2, n1, n3] using hq)
    · cases f1 : febB y1 m1 d1
      · simp only [f1, Bool.false_eq_true, and_false, false_and, if_false] at hp hq
        by_cases n1 : d1 = 31
        · subst n1
          by_cases n2 : d2 = 31
          · subst n2
            exact rus_m3131 a b y1 m1 y2 m2 p q _ w h1 ha h2 hb hab f1 rfl (by simpa using hp) (by simpa using hq)
          · exact rus_m31d2 a b y1 m1 y2 m2 d2 p q _ w h1 ha h2 hb hab f1 rfl n2 (by simpa [n2] using hp) (by simpa [n2] using hq)
        · by_cases n3 : d1 = 30
          · subst n3
            by_cases n2 : d2 = 31
            · subst n2
              exact rus_m3031 a b y1 m1 y2 m2 p q _ w h1 ha h2 hb hab f1 rfl (by simpa using hp) (by simpa using hq)
            · exact rus_m30d2 a b y1 m1 y2 m2 d2 p q _ w h1 ha h2 hb hab f1 rfl n2 (by simpa [n2] using hp) (by simpa [n2] using hq)
          · skip
            by_cases n2 : d2 = 31
            · subst n2
              exact rus_md131 a b y1 m1 d1 y2 m2 p q _ w h1 ha h2 hb hab f1 rfl n1 n3 (by simpa [n1, n3] using hp) (by simpa [n1, n3] using hq)
            · exact rus_md1d2 a b y1 m1 d1 y2 m2 d2 p q _ w h1 ha h2 hb hab f1 rfl n1 n3 n2 (by simpa [n2, n1, n3] using hp) (by simpa [n2, n1, n3] using hq)
      · cases f2 : febB y2 m2 d2
        · simp only [f1, f2, Bool.false_eq_true, and_false, and_self, if_true, if_false] at hp hq
          by_cases n2 : d2 = 31
          · subst n2
            exact rus_tf31 a b y1 m1 d1 y2 m2 p q w h1 ha h2 hb hab f1 f2 (by simpa using hp) (by simpa using hq)
          · exact rus_tfd2 a b y1 m1 d1 y2 m2 d2 p q w h1 ha h2 hb hab f1 f2 n2 (by simpa [n2] using hp) (by simpa [n2] using hq)
        · simp only [f1, f2, and_self, if_true] at hp hq
          exact rus_tt a b y1 m1 d1 y2 m2 d2 p q w h1 ha h2 hb hab f1 f2 (by simpa using hp) (by simpa using hq)
  · exact rus_day a b t w h
  · exact rus_order a b t w h1 h2 h
end Go.Proofs.YtkmchbllnfoccaaGreatDoor
