/- RollOpen: the walk. -/
import Derived.Test.YtkbhicdcjfpbaaaDoorRoShown
namespace Go.Proofs.YtkbhicdcjfpbaaaDoor
open Go.RowKit
set_option linter.unusedVariables false
set_option linter.unusedSimpArgs false

/-- A week of which one day alone isn't off. -/
def ox (d : Nat) : Nat → Bool := fun i => !(i == d)
theorem ox_may {d : Nat} (h : d < 7) : (wcal (ox d)).May := (wcal_may _).2 ⟨d, h, by simp [ox]⟩
theorem ox_is {d : Nat} (n : Int) : (wcal (ox d)).Is n ↔ dy n ∧ wk n = d := by
  rw [wcal_is]
  have := wk_bd n
  simp only [ox, Bool.not_eq_false', beq_iff_eq]
  constructor
  · rintro ⟨a, b⟩; exact ⟨a, by omega⟩
  · rintro ⟨a, b⟩; exact ⟨a, by omega⟩
theorem oz_may : (wcal oz).May := (wcal_may _).2 ⟨0, by decide, rfl⟩
theorem oz_is (n : Int) (h : dy n) : (wcal oz).Is n := (wcal_is oz n).2 ⟨h, rfl⟩

set_option maxHeartbeats 8000000 in
set_option maxRecDepth 100000 in
theorem roopen_low (n z k : Int) (w : World) (hL : FactsW w) (bz : 0 ≤ z ∧ z < 256) (bk : 0 ≤ k ∧ k < 256) (hn : n < 7) :
    Calls Tryd.prog 7 #[.int .i64 n, .int .u8 z, .int .u8 k] w fun e w' => e = .returned (.bool true) ∧ Below w.heap.size w w' := by
  have H := (Held.start w).add (f := factsWF) hL
  clear hL
  have t0 : decide (n < 7) = true := decide_eq_true hn
  go_enter Tryd.func7, Tryd.ntmps7
  go_wp2_with fail
  (with_reducible refine (roshown_any _ (H.factsW mh)).mono ?_)
  rintro e w1 ⟨rfl, hb⟩
  replace H := H.below hb
  clear hb
  go_wp2_with fail
  go_ret
  exact ⟨rfl, H.old⟩

set_option maxHeartbeats 8000000 in
set_option maxRecDepth 100000 in
theorem roopen_high (n z k : Int) (w : World) (hL : FactsW w) (bz : 0 ≤ z ∧ z < 256) (bk : 0 ≤ k ∧ k < 256) (hn : 7 ≤ n) (ho : 3652052 < n) :
    Calls Tryd.prog 7 #[.int .i64 n, .int .u8 z, .int .u8 k] w fun e w' => e = .returned (.bool true) ∧ Below w.heap.size w w' := by
  have H := (Held.start w).add (f := factsWF) hL
  clear hL
  have t0 : decide (n < 7) = false := decide_eq_false (by omega)
  have t1 : decide (n > 3652052) = true := decide_eq_true ho
  go_enter Tryd.func7, Tryd.ntmps7
  go_wp2_with fail
  (with_reducible refine (roshown_any _ (H.factsW mh)).mono ?_)
  rintro e w1 ⟨rfl, hb⟩
  replace H := H.below hb
  clear hb
  go_wp2_with fail
  go_ret
  exact ⟨rfl, H.old⟩

set_option maxHeartbeats 8000000 in
set_option maxRecDepth 100000 in
theorem roopen_0 (n z k b p x : Int) (w : World) (hL : FactsW w) (bz : 0 ≤ z ∧ z < 256) (bk : 0 ≤ k ∧ k < 256) (hn : 7 ≤ n ∧ n ≤ 3652052) (hd : z % 7 = 0) (h1 : StepIs (wcal (ox 0)) 1 n b 0) (h2 : StepIs (wcal (ox 0)) (-1) n p 0) (h3 : ToIs (wcal (ox 0)) n (k % 5) x 0) (h4 : ToIs (wcal oz) n (k % 5) n 0) (fb : 0 ≤ b - n ∧ b - n ≤ 6) (fp : 0 ≤ n - p ∧ n - p ≤ 6) (wb : wk b = 0) (wp : wk p = 0) (hx : (k % 5 = 0 ∧ x = n) ∨ x = b ∨ x = p) :
    Calls Tryd.prog 7 #[.int .i64 n, .int .u8 z, .int .u8 k] w fun e w' => e = .returned (.bool true) ∧ Below w.heap.size w w' := by
  have H := (Held.start w).add (f := factsWF) hL
  clear hL
  have t0 : decide (n < 7) = false := decide_eq_false (by omega)
  have t1 : decide (n > 3652052) = false := decide_eq_false (by omega)
  have u1 : decide (b - n ≥ 0) = true := decide_eq_true (by omega)
  have u2 : decide (b - n ≤ 6) = true := decide_eq_true (by omega)
  have u3 : decide (n - p ≥ 0) = true := decide_eq_true (by omega)
  have u4 : decide (n - p ≤ 6) = true := decide_eq_true (by omega)
  have QZ : Hid (∀ v, FactsW v → Calls Tryd.prog 12 #[.agg #[.bool false, .bool false, .bool false, .bool false, .bool false, .bool false, .bool false, .slice none 0 0, .slice none 0 0], .int .i64 n, .int .i64 (k % 5)] v fun e w' => e = .returned (.tuple #[.int .i64 n, .int .i64 0]) ∧ Below v.heap.size v w') := Lib.hid (fun v h => to_is14 (wcal oz) none 0 none 0 n (k % 5) n 0 v h oz_may (cal_none v _ _ _) (by omega) h4)
  have QN : Hid (∀ v, FactsW v → Calls Tryd.prog 14 #[.agg #[.bool false, .bool true, .bool true, .bool true, .bool true, .bool true, .bool true, .slice none 0 0, .slice none 0 0], .int .i64 n] v fun e w' => e = .returned (.tuple #[.int .i64 b, .int .i64 0]) ∧ Below v.heap.size v w') := Lib.hid (fun v h => next_is (wcal (ox 0)) none 0 none 0 n b 0 v h (ox_may (by omega)) (cal_none v _ _ _) (by omega) h1)
  have QP : Hid (∀ v, FactsW v → Calls Tryd.prog 16 #[.agg #[.bool false, .bool true, .bool true, .bool true, .bool true, .bool true, .bool true, .slice none 0 0, .slice none 0 0], .int .i64 n] v fun e w' => e = .returned (.tuple #[.int .i64 p, .int .i64 0]) ∧ Below v.heap.size v w') := Lib.hid (fun v h => prev_is (wcal (ox 0)) none 0 none 0 n p 0 v h (ox_may (by omega)) (cal_none v _ _ _) (by omega) h2)
  have QT : Hid (∀ v, FactsW v → Calls Tryd.prog 12 #[.agg #[.bool false, .bool true, .bool true, .bool true, .bool true, .bool true, .bool true, .slice none 0 0, .slice none 0 0], .int .i64 n, .int .i64 (k % 5)] v fun e w' => e = .returned (.tuple #[.int .i64 x, .int .i64 0]) ∧ Below v.heap.size v w') := Lib.hid (fun v h => to_is14 (wcal (ox 0)) none 0 none 0 n (k % 5) x 0 v h (ox_may (by omega)) (cal_none v _ _ _) (by omega) h3)
  have HB := Lib.hid wb
  have HP := Lib.hid wp
  have HX := Lib.hid hx
  clear wb wp hx
  clear h1 h2 h3 h4
  go_enter Tryd.func7, Tryd.ntmps7
  go_wp2_with fail
  (with_reducible refine (roshown_any _ (H.factsW mh)).mono ?_)
  rintro e w1 ⟨rfl, hb⟩
  replace H := H.below hb
  clear hb
  go_wp2_with fail
  (with_reducible refine (QZ.out _ (H.factsW mh)).mono ?_)
  rintro e w2 ⟨rfl, hb⟩
  replace H := H.below hb
  clear hb
  go_wp2_with fail
  replace H := (H.box_9 (w2.heap.size) (.bool false) (.bool true) (.bool true) (.bool true) (.bool true) (.bool true) (.bool true) (.slice none 0 0) (.slice none 0 0) 26 rfl)
  (with_reducible refine (QN.out _ (H.factsW (mt8 (mt8 (mt1 (mt1 mh)))))).mono ?_)
  rintro e w3 ⟨rfl, hb⟩
  replace H := H.below hb
  clear hb
  have cc0 := H.cell (w2.heap.size) 0 (.bool false) mh
  have cc1 := H.cell (w2.heap.size) 1 (.bool true) (mt1 mh)
  have cc2 := H.cell (w2.heap.size) 2 (.bool true) (mt1 (mt1 mh))
  have cc3 := H.cell (w2.heap.size) 3 (.bool true) (mt1 (mt1 (mt1 mh)))
  have cc4 := H.cell (w2.heap.size) 4 (.bool true) (mt1 (mt1 (mt1 (mt1 mh))))
  have cc5 := H.cell (w2.heap.size) 5 (.bool true) (mt1 (mt1 (mt1 (mt1 (mt1 mh)))))
  have cc6 := H.cell (w2.heap.size) 6 (.bool true) (mt1 (mt1 (mt1 (mt1 (mt1 (mt1 mh))))))
  have cc7 := H.cell (w2.heap.size) 7 (.slice none 0 0) (mt1 (mt1 (mt1 (mt1 (mt1 (mt1 (mt1 mh)))))))
  have cc8 := H.cell (w2.heap.size) 8 (.slice none 0 0) (mt8 mh)
  have lc := H.lt (w2.heap.size) 0 (.bool false) mh
  go_wp2_with fail
  clear cc0 cc1 cc2 cc3 cc4 cc5 cc6 cc7 cc8 lc
  (with_reducible refine (QP.out _ (H.factsW (mt8 (mt8 (mt1 (mt1 mh)))))).mono ?_)
  rintro e w4 ⟨rfl, hb⟩
  replace H := H.below hb
  clear hb
  have cc0 := H.cell (w2.heap.size) 0 (.bool false) mh
  have cc1 := H.cell (w2.heap.size) 1 (.bool true) (mt1 mh)
  have cc2 := H.cell (w2.heap.size) 2 (.bool true) (mt1 (mt1 mh))
  have cc3 := H.cell (w2.heap.size) 3 (.bool true) (mt1 (mt1 (mt1 mh)))
  have cc4 := H.cell (w2.heap.size) 4 (.bool true) (mt1 (mt1 (mt1 (mt1 mh))))
  have cc5 := H.cell (w2.heap.size) 5 (.bool true) (mt1 (mt1 (mt1 (mt1 (mt1 mh)))))
  have cc6 := H.cell (w2.heap.size) 6 (.bool true) (mt1 (mt1 (mt1 (mt1 (mt1 (mt1 mh))))))
  have cc7 := H.cell (w2.heap.size) 7 (.slice none 0 0) (mt1 (mt1 (mt1 (mt1 (mt1 (mt1 (mt1 mh)))))))
  have cc8 := H.cell (w2.heap.size) 8 (.slice none 0 0) (mt8 mh)
  have lc := H.lt (w2.heap.size) 0 (.bool false) mh
  go_wp2_with fail
  clear cc0 cc1 cc2 cc3 cc4 cc5 cc6 cc7 cc8 lc
  (with_reducible refine (QT.out _ (H.factsW (mt8 (mt8 (mt1 (mt1 mh)))))).mono ?_)
  rintro e w5 ⟨rfl, hb⟩
  replace H := H.below hb
  clear hb
  repeat' (first | simp only [List.append_eq, List.cons_append, List.nil_append] | go_values | go_skip | go_guarded | go_step | go_upon)
  (with_reducible refine (rweek_is b 0 _ HB.out).mono ?_)
  rintro e w6 ⟨rfl, hb⟩
  replace H := H.below hb
  clear hb
  repeat' (first | simp only [List.append_eq, List.cons_append, List.nil_append] | go_values | go_skip | go_guarded | go_step | go_upon)
  (with_reducible refine (rweek_is p 0 _ HP.out).mono ?_)
  rintro e w7 ⟨rfl, hb⟩
  replace H := H.below hb
  clear hb
  rcases HX.out with ⟨xk, rfl⟩ | xb | xp
  · have y1 : (k % 5 == 0) = true := by simpa using xk
    repeat' (first | simp only [List.append_eq, List.cons_append, List.nil_append] | go_values | go_skip | go_guarded | go_step | go_upon)
    all_goals (first | (go_ret; exact ⟨rfl, H.old⟩) | (exfalso; have hu := undef_bool; simp_all))
  · have y2 : (x == b) = true := by simpa using xb
    cases y1 : (k % 5 == 0)
    · repeat' (first | simp only [List.append_eq, List.cons_append, List.nil_append] | go_values | go_skip | go_guarded | go_step | go_upon)
      all_goals (first | (go_ret; exact ⟨rfl, H.old⟩) | (exfalso; have hu := undef_bool; simp_all))
    cases y3 : (x == n)
    · repeat' (first | simp only [List.append_eq, List.cons_append, List.nil_append] | go_values | go_skip | go_guarded | go_step | go_upon)
      all_goals (first | (go_ret; exact ⟨rfl, H.old⟩) | (exfalso; have hu := undef_bool; simp_all))
    repeat' (first | simp only [List.append_eq, List.cons_append, List.nil_append] | go_values | go_skip | go_guarded | go_step | go_upon)
    all_goals (first | (go_ret; exact ⟨rfl, H.old⟩) | (exfalso; have hu := undef_bool; simp_all))
  · have y2 : (x == p) = true := by simpa using xp
    cases y1 : (k % 5 == 0)
    · cases y3 : (x == b)
      · repeat' (first | simp only [List.append_eq, List.cons_append, List.nil_append] | go_values | go_skip | go_guarded | go_step | go_upon)
        all_goals (first | (go_ret; exact ⟨rfl, H.old⟩) | (exfalso; have hu := undef_bool; simp_all))
      · repeat' (first | simp only [List.append_eq, List.cons_append, List.nil_append] | go_values | go_skip | go_guarded | go_step | go_upon)
        all_goals (first | (go_ret; exact ⟨rfl, H.old⟩) | (exfalso; have hu := undef_bool; simp_all))
    cases y3 : (x == n)
    · cases y4 : (x == b)
      · repeat' (first | simp only [List.append_eq, List.cons_append, List.nil_append] | go_values | go_skip | go_guarded | go_step | go_upon)
        all_goals (first | (go_ret; exact ⟨rfl, H.old⟩) | (exfalso; have hu := undef_bool; simp_all))
      · repeat' (first | simp only [List.append_eq, List.cons_append, List.nil_append] | go_values | go_skip | go_guarded | go_step | go_upon)
        all_goals (first | (go_ret; exact ⟨rfl, H.old⟩) | (exfalso; have hu := undef_bool; simp_all))
    repeat' (first | simp only [List.append_eq, List.cons_append, List.nil_append] | go_values | go_skip | go_guarded | go_step | go_upon)
    all_goals (first | (go_ret; exact ⟨rfl, H.old⟩) | (exfalso; have hu := undef_bool; simp_all))

set_option maxHeartbeats 8000000 in
set_option maxRecDepth 100000 in
theorem roopen_1 (n z k b p x : Int) (w : World) (hL : FactsW w) (bz : 0 ≤ z ∧ z < 256) (bk : 0 ≤ k ∧ k < 256) (hn : 7 ≤ n ∧ n ≤ 3652052) (hd : z % 7 = 1) (h1 : StepIs (wcal (ox 1)) 1 n b 0) (h2 : StepIs (wcal (ox 1)) (-1) n p 0) (h3 : ToIs (wcal (ox 1)) n (k % 5) x 0) (h4 : ToIs (wcal oz) n (k % 5) n 0) (fb : 0 ≤ b - n ∧ b - n ≤ 6) (fp : 0 ≤ n - p ∧ n - p ≤ 6) (wb : wk b = 1) (wp : wk p = 1) (hx : (k % 5 = 0 ∧ x = n) ∨ x = b ∨ x = p) :
    Calls Tryd.prog 7 #[.int .i64 n, .int .u8 z, .int .u8 k] w fun e w' => e = .returned (.bool true) ∧ Below w.heap.size w w' := by
  have H := (Held.start w).add (f := factsWF) hL
  clear hL
  have t0 : decide (n < 7) = false := decide_eq_false (by omega)
  have t1 : decide (n > 3652052) = false := decide_eq_false (by omega)
  have u1 : decide (b - n ≥ 0) = true := decide_eq_true (by omega)
  have u2 : decide (b - n ≤ 6) = true := decide_eq_true (by omega)
  have u3 : decide (n - p ≥ 0) = true := decide_eq_true (by omega)
  have u4 : decide (n - p ≤ 6) = true := decide_eq_true (by omega)
  have QZ : Hid (∀ v, FactsW v → Calls Tryd.prog 12 #[.agg #[.bool false, .bool false, .bool false, .bool false, .bool false, .bool false, .bool false, .slice none 0 0, .slice none 0 0], .int .i64 n, .int .i64 (k % 5)] v fun e w' => e = .returned (.tuple #[.int .i64 n, .int .i64 0]) ∧ Below v.heap.size v w') := Lib.hid (fun v h => to_is14 (wcal oz) none 0 none 0 n (k % 5) n 0 v h oz_may (cal_none v _ _ _) (by omega) h4)
  have QN : Hid (∀ v, FactsW v → Calls Tryd.prog 14 #[.agg #[.bool true, .bool false, .bool true, .bool true, .bool true, .bool true, .bool true, .slice none 0 0, .slice none 0 0], .int .i64 n] v fun e w' => e = .returned (.tuple #[.int .i64 b, .int .i64 0]) ∧ Below v.heap.size v w') := Lib.hid (fun v h => next_is (wcal (ox 1)) none 0 none 0 n b 0 v h (ox_may (by omega)) (cal_none v _ _ _) (by omega) h1)
  have QP : Hid (∀ v, FactsW v → Calls Tryd.prog 16 #[.agg #[.bool true, .bool false, .bool true, .bool true, .bool true, .bool true, .bool true, .slice none 0 0, .slice none 0 0], .int .i64 n] v fun e w' => e = .returned (.tuple #[.int .i64 p, .int .i64 0]) ∧ Below v.heap.size v w') := Lib.hid (fun v h => prev_is (wcal (ox 1)) none 0 none 0 n p 0 v h (ox_may (by omega)) (cal_none v _ _ _) (by omega) h2)
  have QT : Hid (∀ v, FactsW v → Calls Tryd.prog 12 #[.agg #[.bool true, .bool false, .bool true, .bool true, .bool true, .bool true, .bool true, .slice none 0 0, .slice none 0 0], .int .i64 n, .int .i64 (k % 5)] v fun e w' => e = .returned (.tuple #[.int .i64 x, .int .i64 0]) ∧ Below v.heap.size v w') := Lib.hid (fun v h => to_is14 (wcal (ox 1)) none 0 none 0 n (k % 5) x 0 v h (ox_may (by omega)) (cal_none v _ _ _) (by omega) h3)
  have HB := Lib.hid wb
  have HP := Lib.hid wp
  have HX := Lib.hid hx
  clear wb wp hx
  clear h1 h2 h3 h4
  go_enter Tryd.func7, Tryd.ntmps7
  go_wp2_with fail
  (with_reducible refine (roshown_any _ (H.factsW mh)).mono ?_)
  rintro e w1 ⟨rfl, hb⟩
  replace H := H.below hb
  clear hb
  go_wp2_with fail
  (with_reducible refine (QZ.out _ (H.factsW mh)).mono ?_)
  rintro e w2 ⟨rfl, hb⟩
  replace H := H.below hb
  clear hb
  go_wp2_with fail
  replace H := (H.box_9 (w2.heap.size) (.bool true) (.bool false) (.bool true) (.bool true) (.bool true) (.bool true) (.bool true) (.slice none 0 0) (.slice none 0 0) 26 rfl)
  (with_reducible refine (QN.out _ (H.factsW (mt8 (mt8 (mt1 (mt1 mh)))))).mono ?_)
  rintro e w3 ⟨rfl, hb⟩
  replace H := H.below hb
  clear hb
  have cc0 := H.cell (w2.heap.size) 0 (.bool true) mh
  have cc1 := H.cell (w2.heap.size) 1 (.bool false) (mt1 mh)
  have cc2 := H.cell (w2.heap.size) 2 (.bool true) (mt1 (mt1 mh))
  have cc3 := H.cell (w2.heap.size) 3 (.bool true) (mt1 (mt1 (mt1 mh)))
  have cc4 := H.cell (w2.heap.size) 4 (.bool true) (mt1 (mt1 (mt1 (mt1 mh))))
  have cc5 := H.cell (w2.heap.size) 5 (.bool true) (mt1 (mt1 (mt1 (mt1 (mt1 mh)))))
  have cc6 := H.cell (w2.heap.size) 6 (.bool true) (mt1 (mt1 (mt1 (mt1 (mt1 (mt1 mh))))))
  have cc7 := H.cell (w2.heap.size) 7 (.slice none 0 0) (mt1 (mt1 (mt1 (mt1 (mt1 (mt1 (mt1 mh)))))))
  have cc8 := H.cell (w2.heap.size) 8 (.slice none 0 0) (mt8 mh)
  have lc := H.lt (w2.heap.size) 0 (.bool true) mh
  go_wp2_with fail
  clear cc0 cc1 cc2 cc3 cc4 cc5 cc6 cc7 cc8 lc
  (with_reducible refine (QP.out _ (H.factsW (mt8 (mt8 (mt1 (mt1 mh)))))).mono ?_)
  rintro e w4 ⟨rfl, hb⟩
  replace H := H.below hb
  clear hb
  have cc0 := H.cell (w2.heap.size) 0 (.bool true) mh
  have cc1 := H.cell (w2.heap.size) 1 (.bool false) (mt1 mh)
  have cc2 := H.cell (w2.heap.size) 2 (.bool true) (mt1 (mt1 mh))
  have cc3 := H.cell (w2.heap.size) 3 (.bool true) (mt1 (mt1 (mt1 mh)))
  have cc4 := H.cell (w2.heap.size) 4 (.bool true) (mt1 (mt1 (mt1 (mt1 mh))))
  have cc5 := H.cell (w2.heap.size) 5 (.bool true) (mt1 (mt1 (mt1 (mt1 (mt1 mh)))))
  have cc6 := H.cell (w2.heap.size) 6 (.bool true) (mt1 (mt1 (mt1 (mt1 (mt1 (mt1 mh))))))
  have cc7 := H.cell (w2.heap.size) 7 (.slice none 0 0) (mt1 (mt1 (mt1 (mt1 (mt1 (mt1 (mt1 mh)))))))
  have cc8 := H.cell (w2.heap.size) 8 (.slice none 0 0) (mt8 mh)
  have lc := H.lt (w2.heap.size) 0 (.bool true) mh
  go_wp2_with fail
  clear cc0 cc1 cc2 cc3 cc4 cc5 cc6 cc7 cc8 lc
  (with_reducible refine (QT.out _ (H.factsW (mt8 (mt8 (mt1 (mt1 mh)))))).mono ?_)
  rintro e w5 ⟨rfl, hb⟩
  replace H := H.below hb
  clear hb
  repeat' (first | simp only [List.append_eq, List.cons_append, List.nil_append] | go_values | go_skip | go_guarded | go_step | go_upon)
  (with_reducible refine (rweek_is b 1 _ HB.out).mono ?_)
  rintro e w6 ⟨rfl, hb⟩
  replace H := H.below hb
  clear hb
  repeat' (first | simp only [List.append_eq, List.cons_append, List.nil_append] | go_values | go_skip | go_guarded | go_step | go_upon)
  (with_reducible refine (rweek_is p 1 _ HP.out).mono ?_)
  rintro e w7 ⟨rfl, hb⟩
  replace H := H.below hb
  clear hb
  rcases HX.out with ⟨xk, rfl⟩ | xb | xp
  · have y1 : (k % 5 == 0) = true := by simpa using xk
    repeat' (first | simp only [List.append_eq, List.cons_append, List.nil_append] | go_values | go_skip | go_guarded | go_step | go_upon)
    all_goals (first | (go_ret; exact ⟨rfl, H.old⟩) | (exfalso; have hu := undef_bool; simp_all))
  · have y2 : (x == b) = true := by simpa using xb
    cases y1 : (k % 5 == 0)
    · repeat' (first | simp only [List.append_eq, List.cons_append, List.nil_append] | go_values | go_skip | go_guarded | go_step | go_upon)
      all_goals (first | (go_ret; exact ⟨rfl, H.old⟩) | (exfalso; have hu := undef_bool; simp_all))
    cases y3 : (x == n)
    · repeat' (first | simp only [List.append_eq, List.cons_append, List.nil_append] | go_values | go_skip | go_guarded | go_step | go_upon)
      all_goals (first | (go_ret; exact ⟨rfl, H.old⟩) | (exfalso; have hu := undef_bool; simp_all))
    repeat' (first | simp only [List.append_eq, List.cons_append, List.nil_append] | go_values | go_skip | go_guarded | go_step | go_upon)
    all_goals (first | (go_ret; exact ⟨rfl, H.old⟩) | (exfalso; have hu := undef_bool; simp_all))
  · have y2 : (x == p) = true := by simpa using xp
    cases y1 : (k % 5 == 0)
    · cases y3 : (x == b)
      · repeat' (first | simp only [List.append_eq, List.cons_append, List.nil_append] | go_values | go_skip | go_guarded | go_step | go_upon)
        all_goals (first | (go_ret; exact ⟨rfl, H.old⟩) | (exfalso; have hu := undef_bool; simp_all))
      · repeat' (first | simp only [List.append_eq, List.cons_append, List.nil_append] | go_values | go_skip | go_guarded | go_step | go_upon)
        all_goals (first | (go_ret; exact ⟨rfl, H.old⟩) | (exfalso; have hu := undef_bool; simp_all))
    cases y3 : (x == n)
    · cases y4 : (x == b)
      · repeat' (first | simp only [List.append_eq, List.cons_append, List.nil_append] | go_values | go_skip | go_guarded | go_step | go_upon)
        all_goals (first | (go_ret; exact ⟨rfl, H.old⟩) | (exfalso; have hu := undef_bool; simp_all))
      · repeat' (first | simp only [List.append_eq, List.cons_append, List.nil_append] | go_values | go_skip | go_guarded | go_step | go_upon)
        all_goals (first | (go_ret; exact ⟨rfl, H.old⟩) | (exfalso; have hu := undef_bool; simp_all))
    repeat' (first | simp only [List.append_eq, List.cons_append, List.nil_append] | go_values | go_skip | go_guarded | go_step | go_upon)
    all_goals (first | (go_ret; exact ⟨rfl, H.old⟩) | (exfalso; have hu := undef_bool; simp_all))

set_option maxHeartbeats 8000000 in
set_option maxRecDepth 100000 in
theorem roopen_2 (n z k b p x : Int) (w : World) (hL : FactsW w) (bz : 0 ≤ z ∧ z < 256) (bk : 0 ≤ k ∧ k < 256) (hn : 7 ≤ n ∧ n ≤ 3652052) (hd : z % 7 = 2) (h1 : StepIs (wcal (ox 2)) 1 n b 0) (h2 : StepIs (wcal (ox 2)) (-1) n p 0) (h3 : ToIs (wcal (ox 2)) n (k % 5) x 0) (h4 : ToIs (wcal oz) n (k % 5) n 0) (fb : 0 ≤ b - n ∧ b - n ≤ 6) (fp : 0 ≤ n - p ∧ n - p ≤ 6) (wb : wk b = 2) (wp : wk p = 2) (hx : (k % 5 = 0 ∧ x = n) ∨ x = b ∨ x = p) :
    Calls Tryd.prog 7 #[.int .i64 n, .int .u8 z, .int .u8 k] w fun e w' => e = .returned (.bool true) ∧ Below w.heap.size w w' := by
  have H := (Held.start w).add (f := factsWF) hL
  clear hL
  have t0 : decide (n < 7) = false := decide_eq_false (by omega)
  have t1 : decide (n > 3652052) = false := decide_eq_false (by omega)
  have u1 : decide (b - n ≥ 0) = true := decide_eq_true (by omega)
  have u2 : decide (b - n ≤ 6) = true := decide_eq_true (by omega)
  have u3 : decide (n - p ≥ 0) = true := decide_eq_true (by omega)
  have u4 : decide (n - p ≤ 6) = true := decide_eq_true (by omega)
  have QZ : Hid (∀ v, FactsW v → Calls Tryd.prog 12 #[.agg #[.bool false, .bool false, .bool false, .bool false, .bool false, .bool false, .bool false, .slice none 0 0, .slice none 0 0], .int .i64 n, .int .i64 (k % 5)] v fun e w' => e = .returned (.tuple #[.int .i64 n, .int .i64 0]) ∧ Below v.heap.size v w') := Lib.hid (fun v h => to_is14 (wcal oz) none 0 none 0 n (k % 5) n 0 v h oz_may (cal_none v _ _ _) (by omega) h4)
  have QN : Hid (∀ v, FactsW v → Calls Tryd.prog 14 #[.agg #[.bool true, .bool true, .bool false, .bool true, .bool true, .bool true, .bool true, .slice none 0 0, .slice none 0 0], .int .i64 n] v fun e w' => e = .returned (.tuple #[.int .i64 b, .int .i64 0]) ∧ Below v.heap.size v w') := Lib.hid (fun v h => next_is (wcal (ox 2)) none 0 none 0 n b 0 v h (ox_may (by omega)) (cal_none v _ _ _) (by omega) h1)
  have QP : Hid (∀ v, FactsW v → Calls Tryd.prog 16 #[.agg #[.bool true, .bool true, .bool false, .bool true, .bool true, .bool true, .bool true, .slice none 0 0, .slice none 0 0], .int .i64 n] v fun e w' => e = .returned (.tuple #[.int .i64 p, .int .i64 0]) ∧ Below v.heap.size v w') := Lib.hid (fun v h => prev_is (wcal (ox 2)) none 0 none 0 n p 0 v h (ox_may (by omega)) (cal_none v _ _ _) (by omega) h2)
  have QT : Hid (∀ v, FactsW v → Calls Tryd.prog 12 #[.agg #[.bool true, .bool true, .bool false, .bool true, .bool true, .bool true, .bool true, .slice none 0 0, .slice none 0 0], .int .i64 n, .int .i64 (k % 5)] v fun e w' => e = .returned (.tuple #[.int .i64 x, .int .i64 0]) ∧ Below v.heap.size v w') := Lib.hid (fun v h => to_is14 (wcal (ox 2)) none 0 none 0 n (k % 5) x 0 v h (ox_may (by omega)) (cal_none v _ _ _) (by omega) h3)
  have HB := Lib.hid wb
  have HP := Lib.hid wp
  have HX := Lib.hid hx
  clear wb wp hx
  clear h1 h2 h3 h4
  go_enter Tryd.func7, Tryd.ntmps7
  go_wp2_with fail
  (with_reducible refine (roshown_any _ (H.factsW mh)).mono ?_)
  rintro e w1 ⟨rfl, hb⟩
  replace H := H.below hb
  clear hb
  go_wp2_with fail
  (with_reducible refine (QZ.out _ (H.factsW mh)).mono ?_)
  rintro e w2 ⟨rfl, hb⟩
  replace H := H.below hb
  clear hb
  go_wp2_with fail
  replace H := (H.box_9 (w2.heap.size) (.bool true) (.bool true) (.bool false) (.bool true) (.bool true) (.bool true) (.bool true) (.slice none 0 0) (.slice none 0 0) 26 rfl)
  (with_reducible refine (QN.out _ (H.factsW (mt8 (mt8 (mt1 (mt1 mh)))))).mono ?_)
  rintro e w3 ⟨rfl, hb⟩
  replace H := H.below hb
  clear hb
  have cc0 := H.cell (w2.heap.size) 0 (.bool true) mh
  have cc1 := H.cell (w2.heap.size) 1 (.bool true) (mt1 mh)
  have cc2 := H.cell (w2.heap.size) 2 (.bool false) (mt1 (mt1 mh))
  have cc3 := H.cell (w2.heap.size) 3 (.bool true) (mt1 (mt1 (mt1 mh)))
  have cc4 := H.cell (w2.heap.size) 4 (.bool true) (mt1 (mt1 (mt1 (mt1 mh))))
  have cc5 := H.cell (w2.heap.size) 5 (.bool true) (mt1 (mt1 (mt1 (mt1 (mt1 mh)))))
  have cc6 := H.cell (w2.heap.size) 6 (.bool true) (mt1 (mt1 (mt1 (mt1 (mt1 (mt1 mh))))))
  have cc7 := H.cell (w2.heap.size) 7 (.slice none 0 0) (mt1 (mt1 (mt1 (mt1 (mt1 (mt1 (mt1 mh)))))))
  have cc8 := H.cell (w2.heap.size) 8 (.slice none 0 0) (mt8 mh)
  have lc := H.lt (w2.heap.size) 0 (.bool true) mh
  go_wp2_with fail
  clear cc0 cc1 cc2 cc3 cc4 cc5 cc6 cc7 cc8 lc
  (with_reducible refine (QP.out _ (H.factsW (mt8 (mt8 (mt1 (mt1 mh)))))).mono ?_)
  rintro e w4 ⟨rfl, hb⟩
  replace H := H.below hb
  clear hb
  have cc0 := H.cell (w2.heap.size) 0 (.bool true) mh
  have cc1 := H.cell (w2.heap.size) 1 (.bool true) (mt1 mh)
  have cc2 := H.cell (w2.heap.size) 2 (.bool false) (mt1 (mt1 mh))
  have cc3 := H.cell (w2.heap.size) 3 (.bool true) (mt1 (mt1 (mt1 mh)))
  have cc4 := H.cell (w2.heap.size) 4 (.bool true) (mt1 (mt1 (mt1 (mt1 mh))))
  have cc5 := H.cell (w2.heap.size) 5 (.bool true) (mt1 (mt1 (mt1 (mt1 (mt1 mh)))))
  have cc6 := H.cell (w2.heap.size) 6 (.bool true) (mt1 (mt1 (mt1 (mt1 (mt1 (mt1 mh))))))
  have cc7 := H.cell (w2.heap.size) 7 (.slice none 0 0) (mt1 (mt1 (mt1 (mt1 (mt1 (mt1 (mt1 mh)))))))
  have cc8 := H.cell (w2.heap.size) 8 (.slice none 0 0) (mt8 mh)
  have lc := H.lt (w2.heap.size) 0 (.bool true) mh
  go_wp2_with fail
  clear cc0 cc1 cc2 cc3 cc4 cc5 cc6 cc7 cc8 lc
  (with_reducible refine (QT.out _ (H.factsW (mt8 (mt8 (mt1 (mt1 mh)))))).mono ?_)
  rintro e w5 ⟨rfl, hb⟩
  replace H := H.below hb
  clear hb
  repeat' (first | simp only [List.append_eq, List.cons_append, List.nil_append] | go_values | go_skip | go_guarded | go_step | go_upon)
  (with_reducible refine (rweek_is b 2 _ HB.out).mono ?_)
  rintro e w6 ⟨rfl, hb⟩
  replace H := H.below hb
  clear hb
  repeat' (first | simp only [List.append_eq, List.cons_append, List.nil_append] | go_values | go_skip | go_guarded | go_step | go_upon)
  (with_reducible refine (rweek_is p 2 _ HP.out).mono ?_)
  rintro e w7 ⟨rfl, hb⟩
  replace H := H.below hb
  clear hb
  rcases HX.out with ⟨xk, rfl⟩ | xb | xp
  · have y1 : (k % 5 == 0) = true := by simpa using xk
    repeat' (first | simp only [List.append_eq, List.cons_append, List.nil_append] | go_values | go_skip | go_guarded | go_step | go_upon)
    all_goals (first | (go_ret; exact ⟨rfl, H.old⟩) | (exfalso; have hu := undef_bool; simp_all))
  · have y2 : (x == b) = true := by simpa using xb
    cases y1 : (k % 5 == 0)
    · repeat' (first | simp only [List.append_eq, List.cons_append, List.nil_append] | go_values | go_skip | go_guarded | go_step | go_upon)
      all_goals (first | (go_ret; exact ⟨rfl, H.old⟩) | (exfalso; have hu := undef_bool; simp_all))
    cases y3 : (x == n)
    · repeat' (first | simp only [List.append_eq, List.cons_append, List.nil_append] | go_values | go_skip | go_guarded | go_step | go_upon)
      all_goals (first | (go_ret; exact ⟨rfl, H.old⟩) | (exfalso; have hu := undef_bool; simp_all))
    repeat' (first | simp only [List.append_eq, List.cons_append, List.nil_append] | go_values | go_skip | go_guarded | go_step | go_upon)
    all_goals (first | (go_ret; exact ⟨rfl, H.old⟩) | (exfalso; have hu := undef_bool; simp_all))
  · have y2 : (x == p) = true := by simpa using xp
    cases y1 : (k % 5 == 0)
    · cases y3 : (x == b)
      · repeat' (first | simp only [List.append_eq, List.cons_append, List.nil_append] | go_values | go_skip | go_guarded | go_step | go_upon)
        all_goals (first | (go_ret; exact ⟨rfl, H.old⟩) | (exfalso; have hu := undef_bool; simp_all))
      · repeat' (first | simp only [List.append_eq, List.cons_append, List.nil_append] | go_values | go_skip | go_guarded | go_step | go_upon)
        all_goals (first | (go_ret; exact ⟨rfl, H.old⟩) | (exfalso; have hu := undef_bool; simp_all))
    cases y3 : (x == n)
    · cases y4 : (x == b)
      · repeat' (first | simp only [List.append_eq, List.cons_append, List.nil_append] | go_values | go_skip | go_guarded | go_step | go_upon)
        all_goals (first | (go_ret; exact ⟨rfl, H.old⟩) | (exfalso; have hu := undef_bool; simp_all))
      · repeat' (first | simp only [List.append_eq, List.cons_append, List.nil_append] | go_values | go_skip | go_guarded | go_step | go_upon)
        all_goals (first | (go_ret; exact ⟨rfl, H.old⟩) | (exfalso; have hu := undef_bool; simp_all))
    repeat' (first | simp only [List.append_eq, List.cons_append, List.nil_append] | go_values | go_skip | go_guarded | go_step | go_upon)
    all_goals (first | (go_ret; exact ⟨rfl, H.old⟩) | (exfalso; have hu := undef_bool; simp_all))

set_option maxHeartbeats 8000000 in
set_option maxRecDepth 100000 in
theorem roopen_3 (n z k b p x : Int) (w : World) (hL : FactsW w) (bz : 0 ≤ z ∧ z < 256) (bk : 0 ≤ k ∧ k < 256) (hn : 7 ≤ n ∧ n ≤ 3652052) (hd : z % 7 = 3) (h1 : StepIs (wcal (ox 3)) 1 n b 0) (h2 : StepIs (wcal (ox 3)) (-1) n p 0) (h3 : ToIs (wcal (ox 3)) n (k % 5) x 0) (h4 : ToIs (wcal oz) n (k % 5) n 0) (fb : 0 ≤ b - n ∧ b - n ≤ 6) (fp : 0 ≤ n - p ∧ n - p ≤ 6) (wb : wk b = 3) (wp : wk p = 3) (hx : (k % 5 = 0 ∧ x = n) ∨ x = b ∨ x = p) :
    Calls Tryd.prog 7 #[.int .i64 n, .int .u8 z, .int .u8 k] w fun e w' => e = .returned (.bool true) ∧ Below w.heap.size w w' := by
  have H := (Held.start w).add (f := factsWF) hL
  clear hL
  have t0 : decide (n < 7) = false := decide_eq_false (by omega)
  have t1 : decide (n > 3652052) = false := decide_eq_false (by omega)
  have u1 : decide (b - n ≥ 0) = true := decide_eq_true (by omega)
  have u2 : decide (b - n ≤ 6) = true := decide_eq_true (by omega)
  have u3 : decide (n - p ≥ 0) = true := decide_eq_true (by omega)
  have u4 : decide (n - p ≤ 6) = true := decide_eq_true (by omega)
  have QZ : Hid (∀ v, FactsW v → Calls Tryd.prog 12 #[.agg #[.bool false, .bool false, .bool false, .bool false, .bool false, .bool false, .bool false, .slice none 0 0, .slice none 0 0], .int .i64 n, .int .i64 (k % 5)] v fun e w' => e = .returned (.tuple #[.int .i64 n, .int .i64 0]) ∧ Below v.heap.size v w') := Lib.hid (fun v h => to_is14 (wcal oz) none 0 none 0 n (k % 5) n 0 v h oz_may (cal_none v _ _ _) (by omega) h4)
  have QN : Hid (∀ v, FactsW v → Calls Tryd.prog 14 #[.agg #[.bool true, .bool true, .bool true, .bool false, .bool true, .bool true, .bool true, .slice none 0 0, .slice none 0 0], .int .i64 n] v fun e w' => e = .returned (.tuple #[.int .i64 b, .int .i64 0]) ∧ Below v.heap.size v w') := Lib.hid (fun v h => next_is (wcal (ox 3)) none 0 none 0 n b 0 v h (ox_may (by omega)) (cal_none v _ _ _) (by omega) h1)
  have QP : Hid (∀ v, FactsW v → Calls Tryd.prog 16 #[.agg #[.bool true, .bool true, .bool true, .bool false, .bool true, .bool true, .bool true, .slice none 0 0, .slice none 0 0], .int .i64 n] v fun e w' => e = .returned (.tuple #[.int .i64 p, .int .i64 0]) ∧ Below v.heap.size v w') := Lib.hid (fun v h => prev_is (wcal (ox 3)) none 0 none 0 n p 0 v h (ox_may (by omega)) (cal_none v _ _ _) (by omega) h2)
  have QT : Hid (∀ v, FactsW v → Calls Tryd.prog 12 #[.agg #[.bool true, .bool true, .bool true, .bool false, .bool true, .bool true, .bool true, .slice none 0 0, .slice none 0 0], .int .i64 n, .int .i64 (k % 5)] v fun e w' => e = .returned (.tuple #[.int .i64 x, .int .i64 0]) ∧ Below v.heap.size v w') := Lib.hid (fun v h => to_is14 (wcal (ox 3)) none 0 none 0 n (k % 5) x 0 v h (ox_may (by omega)) (cal_none v _ _ _) (by omega) h3)
  have HB := Lib.hid wb
  have HP := Lib.hid wp
  have HX := Lib.hid hx
  clear wb wp hx
  clear h1 h2 h3 h4
  go_enter Tryd.func7, Tryd.ntmps7
  go_wp2_with fail
  (with_reducible refine (roshown_any _ (H.factsW mh)).mono ?_)
  rintro e w1 ⟨rfl, hb⟩
  replace H := H.below hb
  clear hb
  go_wp2_with fail
  (with_reducible refine (QZ.out _ (H.factsW mh)).mono ?_)
  rintro e w2 ⟨rfl, hb⟩
  replace H := H.below hb
  clear hb
  go_wp2_with fail
  replace H := (H.box_9 (w2.heap.size) (.bool true) (.bool true) (.bool true) (.bool false) (.bool true) (.bool true) (.bool true) (.slice none 0 0) (.slice none 0 0) 26 rfl)
  (with_reducible refine (QN.out _ (H.factsW (mt8 (mt8 (mt1 (mt1 mh)))))).mono ?_)
  rintro e w3 ⟨rfl, hb⟩
  replace H := H.below hb
  clear hb
  have cc0 := H.cell (w2.heap.size) 0 (.bool true) mh
  have cc1 := H.cell (w2.heap.size) 1 (.bool true) (mt1 mh)
  have cc2 := H.cell (w2.heap.size) 2 (.bool true) (mt1 (mt1 mh))
  have cc3 := H.cell (w2.heap.size) 3 (.bool false) (mt1 (mt1 (mt1 mh)))
  have cc4 := H.cell (w2.heap.size) 4 (.bool true) (mt1 (mt1 (mt1 (mt1 mh))))
  have cc5 := H.cell (w2.heap.size) 5 (.bool true) (mt1 (mt1 (mt1 (mt1 (mt1 mh)))))
  have cc6 := H.cell (w2.heap.size) 6 (.bool true) (mt1 (mt1 (mt1 (mt1 (mt1 (mt1 mh))))))
  have cc7 := H.cell (w2.heap.size) 7 (.slice none 0 0) (mt1 (mt1 (mt1 (mt1 (mt1 (mt1 (mt1 mh)))))))
  have cc8 := H.cell (w2.heap.size) 8 (.slice none 0 0) (mt8 mh)
  have lc := H.lt (w2.heap.size) 0 (.bool true) mh
  go_wp2_with fail
  clear cc0 cc1 cc2 cc3 cc4 cc5 cc6 cc7 cc8 lc
  (with_reducible refine (QP.out _ (H.factsW (mt8 (mt8 (mt1 (mt1 mh)))))).mono ?_)
  rintro e w4 ⟨rfl, hb⟩
  replace H := H.below hb
  clear hb
  have cc0 := H.cell (w2.heap.size) 0 (.bool true) mh
  have cc1 := H.cell (w2.heap.size) 1 (.bool true) (mt1 mh)
  have cc2 := H.cell (w2.heap.size) 2 (.bool true) (mt1 (mt1 mh))
  have cc3 := H.cell (w2.heap.size) 3 (.bool false) (mt1 (mt1 (mt1 mh)))
  have cc4 := H.cell (w2.heap.size) 4 (.bool true) (mt1 (mt1 (mt1 (mt1 mh))))
  have cc5 := H.cell (w2.heap.size) 5 (.bool true) (mt1 (mt1 (mt1 (mt1 (mt1 mh)))))
  have cc6 := H.cell (w2.heap.size) 6 (.bool true) (mt1 (mt1 (mt1 (mt1 (mt1 (mt1 mh))))))
  have cc7 := H.cell (w2.heap.size) 7 (.slice none 0 0) (mt1 (mt1 (mt1 (mt1 (mt1 (mt1 (mt1 mh)))))))
  have cc8 := H.cell (w2.heap.size) 8 (.slice none 0 0) (mt8 mh)
  have lc := H.lt (w2.heap.size) 0 (.bool true) mh
  go_wp2_with fail
  clear cc0 cc1 cc2 cc3 cc4 cc5 cc6 cc7 cc8 lc
  (with_reducible refine (QT.out _ (H.factsW (mt8 (mt8 (mt1 (mt1 mh)))))).mono ?_)
  rintro e w5 ⟨rfl, hb⟩
  replace H := H.below hb
  clear hb
  repeat' (first | simp only [List.append_eq, List.cons_append, List.nil_append] | go_values | go_skip | go_guarded | go_step | go_upon)
  (with_reducible refine (rweek_is b 3 _ HB.out).mono ?_)
  rintro e w6 ⟨rfl, hb⟩
  replace H := H.below hb
  clear hb
  repeat' (first | simp only [List.append_eq, List.cons_append, List.nil_append] | go_values | go_skip | go_guarded | go_step | go_upon)
  (with_reducible refine (rweek_is p 3 _ HP.out).mono ?_)
  rintro e w7 ⟨rfl, hb⟩
  replace H := H.below hb
  clear hb
  rcases HX.out with ⟨xk, rfl⟩ | xb | xp
  · have y1 : (k % 5 == 0) = true := by simpa using xk
    repeat' (first | simp only [List.append_eq, List.cons_append, List.nil_append] | go_values | go_skip | go_guarded | go_step | go_upon)
    all_goals (first | (go_ret; exact ⟨rfl, H.old⟩) | (exfalso; have hu := undef_bool; simp_all))
  · have y2 : (x == b) = true := by simpa using xb
    cases y1 : (k % 5 == 0)
    · repeat' (first | simp only [List.append_eq, List.cons_append, List.nil_append] | go_values | go_skip | go_guarded | go_step | go_upon)
      all_goals (first | (go_ret; exact ⟨rfl, H.old⟩) | (exfalso; have hu := undef_bool; simp_all))
    cases y3 : (x == n)
    · repeat' (first | simp only [List.append_eq, List.cons_append, List.nil_append] | go_values | go_skip | go_guarded | go_step | go_upon)
      all_goals (first | (go_ret; exact ⟨rfl, H.old⟩) | (exfalso; have hu := undef_bool; simp_all))
    repeat' (first | simp only [List.append_eq, List.cons_append, List.nil_append] | go_values | go_skip | go_guarded | go_step | go_upon)
    all_goals (first | (go_ret; exact ⟨rfl, H.old⟩) | (exfalso; have hu := undef_bool; simp_all))
  · have y2 : (x == p) = true := by simpa using xp
    cases y1 : (k % 5 == 0)
    · cases y3 : (x == b)
      · repeat' (first | simp only [List.append_eq, List.cons_append, List.nil_append] | go_values | go_skip | go_guarded | go_step | go_upon)
        all_goals (first | (go_ret; exact ⟨rfl, H.old⟩) | (exfalso; have hu := undef_bool; simp_all))
      · repeat' (first | simp only [List.append_eq, List.cons_append, List.nil_append] | go_values | go_skip | go_guarded | go_step | go_upon)
        all_goals (first | (go_ret; exact ⟨rfl, H.old⟩) | (exfalso; have hu := undef_bool; simp_all))
    cases y3 : (x == n)
    · cases y4 : (x == b)
      · repeat' (first | simp only [List.append_eq, List.cons_append, List.nil_append] | go_values | go_skip | go_guarded | go_step | go_upon)
        all_goals (first | (go_ret; exact ⟨rfl, H.old⟩) | (exfalso; have hu := undef_bool; simp_all))
      · repeat' (first | simp only [List.append_eq, List.cons_append, List.nil_append] | go_values | go_skip | go_guarded | go_step | go_upon)
        all_goals (first | (go_ret; exact ⟨rfl, H.old⟩) | (exfalso; have hu := undef_bool; simp_all))
    repeat' (first | simp only [List.append_eq, List.cons_append, List.nil_append] | go_values | go_skip | go_guarded | go_step | go_upon)
    all_goals (first | (go_ret; exact ⟨rfl, H.old⟩) | (exfalso; have hu := undef_bool; simp_all))

set_option maxHeartbeats 8000000 in
set_option maxRecDepth 100000 in
theorem roopen_4 (n z k b p x : Int) (w : World) (hL : FactsW w) (bz : 0 ≤ z ∧ z < 256) (bk : 0 ≤ k ∧ k < 256) (hn : 7 ≤ n ∧ n ≤ 3652052) (hd : z % 7 = 4) (h1 : StepIs (wcal (ox 4)) 1 n b 0) (h2 : StepIs (wcal (ox 4)) (-1) n p 0) (h3 : ToIs (wcal (ox 4)) n (k % 5) x 0) (h4 : ToIs (wcal oz) n (k % 5) n 0) (fb : 0 ≤ b - n ∧ b - n ≤ 6) (fp : 0 ≤ n - p ∧ n - p ≤ 6) (wb : wk b = 4) (wp : wk p = 4) (hx : (k % 5 = 0 ∧ x = n) ∨ x = b ∨ x = p) :
    Calls Tryd.prog 7 #[.int .i64 n, .int .u8 z, .int .u8 k] w fun e w' => e = .returned (.bool true) ∧ Below w.heap.size w w' := by
  have H := (Held.start w).add (f := factsWF) hL
  clear hL
  have t0 : decide (n < 7) = false := decide_eq_false (by omega)
  have t1 : decide (n > 3652052) = false := decide_eq_false (by omega)
  have u1 : decide (b - n ≥ 0) = true := decide_eq_true (by omega)
  have u2 : decide (b - n ≤ 6) = true := decide_eq_true (by omega)
  have u3 : decide (n - p ≥ 0) = true := decide_eq_true (by omega)
  have u4 : decide (n - p ≤ 6) = true := decide_eq_true (by omega)
  have QZ : Hid (∀ v, FactsW v → Calls Tryd.prog 12 #[.agg #[.bool false, .bool false, .bool false, .bool false, .bool false, .bool false, .bool false, .slice none 0 0, .slice none 0 0], .int .i64 n, .int .i64 (k % 5)] v fun e w' => e = .returned (.tuple #[.int .i64 n, .int .i64 0]) ∧ Below v.heap.size v w') := Lib.hid (fun v h => to_is14 (wcal oz) none 0 none 0 n (k % 5) n 0 v h oz_may (cal_none v _ _ _) (by omega) h4)
  have QN : Hid (∀ v, FactsW v → Calls Tryd.prog 14 #[.agg #[.bool true, .bool true, .bool true, .bool true, .bool false, .bool true, .bool true, .slice none 0 0, .slice none 0 0], .int .i64 n] v fun e w' => e = .returned (.tuple #[.int .i64 b, .int .i64 0]) ∧ Below v.heap.size v w') := Lib.hid (fun v h => next_is (wcal (ox 4)) none 0 none 0 n b 0 v h (ox_may (by omega)) (cal_none v _ _ _) (by omega) h1)
  have QP : Hid (∀ v, FactsW v → Calls Tryd.prog 16 #[.agg #[.bool true, .bool true, .bool true, .bool true, .bool false, .bool true, .bool true, .slice none 0 0, .slice none 0 0], .int .i64 n] v fun e w' => e = .returned (.tuple #[.int .i64 p, .int .i64 0]) ∧ Below v.heap.size v w') := Lib.hid (fun v h => prev_is (wcal (ox 4)) none 0 none 0 n p 0 v h (ox_may (by omega)) (cal_none v _ _ _) (by omega) h2)
  have QT : Hid (∀ v, FactsW v → Calls Tryd.prog 12 #[.agg #[.bool true, .bool true, .bool true, .bool true, .bool false, .bool true, .bool true, .slice none 0 0, .slice none 0 0], .int .i64 n, .int .i64 (k % 5)] v fun e w' => e = .returned (.tuple #[.int .i64 x, .int .i64 0]) ∧ Below v.heap.size v w') := Lib.hid (fun v h => to_is14 (wcal (ox 4)) none 0 none 0 n (k % 5) x 0 v h (ox_may (by omega)) (cal_none v _ _ _) (by omega) h3)
  have HB := Lib.hid wb
  have HP := Lib.hid wp
  have HX := Lib.hid hx
  clear wb wp hx
  clear h1 h2 h3 h4
  go_enter Tryd.func7, Tryd.ntmps7
  go_wp2_with fail
  (with_reducible refine (roshown_any _ (H.factsW mh)).mono ?_)
  rintro e w1 ⟨rfl, hb⟩
  replace H := H.below hb
  clear hb
  go_wp2_with fail
  (with_reducible refine (QZ.out _ (H.factsW mh)).mono ?_)
  rintro e w2 ⟨rfl, hb⟩
  replace H := H.below hb
  clear hb
  go_wp2_with fail
  replace H := (H.box_9 (w2.heap.size) (.bool true) (.bool true) (.bool true) (.bool true) (.bool false) (.bool true) (.bool true) (.slice none 0 0) (.slice none 0 0) 26 rfl)
  (with_reducible refine (QN.out _ (H.factsW (mt8 (mt8 (mt1 (mt1 mh)))))).mono ?_)
  rintro e w3 ⟨rfl, hb⟩
  replace H := H.below hb
  clear hb
  have cc0 := H.cell (w2.heap.size) 0 (.bool true) mh
  have cc1 := H.cell (w2.heap.size) 1 (.bool true) (mt1 mh)
  have cc2 := H.cell (w2.heap.size) 2 (.bool true) (mt1 (mt1 mh))
  have cc3 := H.cell (w2.heap.size) 3 (.bool true) (mt1 (mt1 (mt1 mh)))
  have cc4 := H.cell (w2.heap.size) 4 (.bool false) (mt1 (mt1 (mt1 (mt1 mh))))
  have cc5 := H.cell (w2.heap.size) 5 (.bool true) (mt1 (mt1 (mt1 (mt1 (mt1 mh)))))
  have cc6 := H.cell (w2.heap.size) 6 (.bool true) (mt1 (mt1 (mt1 (mt1 (mt1 (mt1 mh))))))
  have cc7 := H.cell (w2.heap.size) 7 (.slice none 0 0) (mt1 (mt1 (mt1 (mt1 (mt1 (mt1 (mt1 mh)))))))
  have cc8 := H.cell (w2.heap.size) 8 (.slice none 0 0) (mt8 mh)
  have lc := H.lt (w2.heap.size) 0 (.bool true) mh
  go_wp2_with fail
  clear cc0 cc1 cc2 cc3 cc4 cc5 cc6 cc7 cc8 lc
  (with_reducible refine (QP.out _ (H.factsW (mt8 (mt8 (mt1 (mt1 mh)))))).mono ?_)
  rintro e w4 ⟨rfl, hb⟩
  replace H := H.below hb
  clear hb
  have cc0 := H.cell (w2.heap.size) 0 (.bool true) mh
  have cc1 := H.cell (w2.heap.size) 1 (.bool true) (mt1 mh)
  have cc2 := H.cell (w2.heap.size) 2 (.bool true) (mt1 (mt1 mh))
  have cc3 := H.cell (w2.heap.size) 3 (.bool true) (mt1 (mt1 (mt1 mh)))
  have cc4 := H.cell (w2.heap.size) 4 (.bool false) (mt1 (mt1 (mt1 (mt1 mh))))
  have cc5 := H.cell (w2.heap.size) 5 (.bool true) (mt1 (mt1 (mt1 (mt1 (mt1 mh)))))
  have cc6 := H.cell (w2.heap.size) 6 (.bool true) (mt1 (mt1 (mt1 (mt1 (mt1 (mt1 mh))))))
  have cc7 := H.cell (w2.heap.size) 7 (.slice none 0 0) (mt1 (mt1 (mt1 (mt1 (mt1 (mt1 (mt1 mh)))))))
  have cc8 := H.cell (w2.heap.size) 8 (.slice none 0 0) (mt8 mh)
  have lc := H.lt (w2.heap.size) 0 (.bool true) mh
  go_wp2_with fail
  clear cc0 cc1 cc2 cc3 cc4 cc5 cc6 cc7 cc8 lc
  (with_reducible refine (QT.out _ (H.factsW (mt8 (mt8 (mt1 (mt1 mh)))))).mono ?_)
  rintro e w5 ⟨rfl, hb⟩
  replace H := H.below hb
  clear hb
  repeat' (first | simp only [List.append_eq, List.cons_append, List.nil_append] | go_values | go_skip | go_guarded | go_step | go_upon)
  (with_reducible refine (rweek_is b 4 _ HB.out).mono ?_)
  rintro e w6 ⟨rfl, hb⟩
  replace H := H.below hb
  clear hb
  repeat' (first | simp only [List.append_eq, List.cons_append, List.nil_append] | go_values | go_skip | go_guarded | go_step | go_upon)
  (with_reducible refine (rweek_is p 4 _ HP.out).mono ?_)
  rintro e w7 ⟨rfl, hb⟩
  replace H := H.below hb
  clear hb
  rcases HX.out with ⟨xk, rfl⟩ | xb | xp
  · have y1 : (k % 5 == 0) = true := by simpa using xk
    repeat' (first | simp only [List.append_eq, List.cons_append, List.nil_append] | go_values | go_skip | go_guarded | go_step | go_upon)
    all_goals (first | (go_ret; exact ⟨rfl, H.old⟩) | (exfalso; have hu := undef_bool; simp_all))
  · have y2 : (x == b) = true := by simpa using xb
    cases y1 : (k % 5 == 0)
    · repeat' (first | simp only [List.append_eq, List.cons_append, List.nil_append] | go_values | go_skip | go_guarded | go_step | go_upon)
      all_goals (first | (go_ret; exact ⟨rfl, H.old⟩) | (exfalso; have hu := undef_bool; simp_all))
    cases y3 : (x == n)
    · repeat' (first | simp only [List.append_eq, List.cons_append, List.nil_append] | go_values | go_skip | go_guarded | go_step | go_upon)
      all_goals (first | (go_ret; exact ⟨rfl, H.old⟩) | (exfalso; have hu := undef_bool; simp_all))
    repeat' (first | simp only [List.append_eq, List.cons_append, List.nil_append] | go_values | go_skip | go_guarded | go_step | go_upon)
    all_goals (first | (go_ret; exact ⟨rfl, H.old⟩) | (exfalso; have hu := undef_bool; simp_all))
  · have y2 : (x == p) = true := by simpa using xp
    cases y1 : (k % 5 == 0)
    · cases y3 : (x == b)
      · repeat' (first | simp only [List.append_eq, List.cons_append, List.nil_append] | go_values | go_skip | go_guarded | go_step | go_upon)
        all_goals (first | (go_ret; exact ⟨rfl, H.old⟩) | (exfalso; have hu := undef_bool; simp_all))
      · repeat' (first | simp only [List.append_eq, List.cons_append, List.nil_append] | go_values | go_skip | go_guarded | go_step | go_upon)
        all_goals (first | (go_ret; exact ⟨rfl, H.old⟩) | (exfalso; have hu := undef_bool; simp_all))
    cases y3 : (x == n)
    · cases y4 : (x == b)
      · repeat' (first | simp only [List.append_eq, List.cons_append, List.nil_append] | go_values | go_skip | go_guarded | go_step | go_upon)
        all_goals (first | (go_ret; exact ⟨rfl, H.old⟩) | (exfalso; have hu := undef_bool; simp_all))
      · repeat' (first | simp only [List.append_eq, List.cons_append, List.nil_append] | go_values | go_skip | go_guarded | go_step | go_upon)
        all_goals (first | (go_ret; exact ⟨rfl, H.old⟩) | (exfalso; have hu := undef_bool; simp_all))
    repeat' (first | simp only [List.append_eq, List.cons_append, List.nil_append] | go_values | go_skip | go_guarded | go_step | go_upon)
    all_goals (first | (go_ret; exact ⟨rfl, H.old⟩) | (exfalso; have hu := undef_bool; simp_all))

set_option maxHeartbeats 8000000 in
set_option maxRecDepth 100000 in
theorem roopen_5 (n z k b p x : Int) (w : World) (hL : FactsW w) (bz : 0 ≤ z ∧ z < 256) (bk : 0 ≤ k ∧ k < 256) (hn : 7 ≤ n ∧ n ≤ 3652052) (hd : z % 7 = 5) (h1 : StepIs (wcal (ox 5)) 1 n b 0) (h2 : StepIs (wcal (ox 5)) (-1) n p 0) (h3 : ToIs (wcal (ox 5)) n (k % 5) x 0) (h4 : ToIs (wcal oz) n (k % 5) n 0) (fb : 0 ≤ b - n ∧ b - n ≤ 6) (fp : 0 ≤ n - p ∧ n - p ≤ 6) (wb : wk b = 5) (wp : wk p = 5) (hx : (k % 5 = 0 ∧ x = n) ∨ x = b ∨ x = p) :
    Calls Tryd.prog 7 #[.int .i64 n, .int .u8 z, .int .u8 k] w fun e w' => e = .returned (.bool true) ∧ Below w.heap.size w w' := by
  have H := (Held.start w).add (f := factsWF) hL
  clear hL
  have t0 : decide (n < 7) = false := decide_eq_false (by omega)
  have t1 : decide (n > 3652052) = false := decide_eq_false (by omega)
  have u1 : decide (b - n ≥ 0) = true := decide_eq_true (by omega)
  have u2 : decide (b - n ≤ 6) = true := decide_eq_true (by omega)
  have u3 : decide (n - p ≥ 0) = true := decide_eq_true (by omega)
  have u4 : decide (n - p ≤ 6) = true := decide_eq_true (by omega)
  have QZ : Hid (∀ v, FactsW v → Calls Tryd.prog 12 #[.agg #[.bool false, .bool false, .bool false, .bool false, .bool false, .bool false, .bool false, .slice none 0 0, .slice none 0 0], .int .i64 n, .int .i64 (k % 5)] v fun e w' => e = .returned (.tuple #[.int .i64 n, .int .i64 0]) ∧ Below v.heap.size v w') := Lib.hid (fun v h => to_is14 (wcal oz) none 0 none 0 n (k % 5) n 0 v h oz_may (cal_none v _ _ _) (by omega) h4)
  have QN : Hid (∀ v, FactsW v → Calls Tryd.prog 14 #[.agg #[.bool true, .bool true, .bool true, .bool true, .bool true, .bool false, .bool true, .slice none 0 0, .slice none 0 0], .int .i64 n] v fun e w' => e = .returned (.tuple #[.int .i64 b, .int .i64 0]) ∧ Below v.heap.size v w') := Lib.hid (fun v h => next_is (wcal (ox 5)) none 0 none 0 n b 0 v h (ox_may (by omega)) (cal_none v _ _ _) (by omega) h1)
  have QP : Hid (∀ v, FactsW v → Calls Tryd.prog 16 #[.agg #[.bool true, .bool true, .bool true, .bool true, .bool true, .bool false, .bool true, .slice none 0 0, .slice none 0 0], .int .i64 n] v fun e w' => e = .returned (.tuple #[.int .i64 p, .int .i64 0]) ∧ Below v.heap.size v w') := Lib.hid (fun v h => prev_is (wcal (ox 5)) none 0 none 0 n p 0 v h (ox_may (by omega)) (cal_none v _ _ _) (by omega) h2)
  have QT : Hid (∀ v, FactsW v → Calls Tryd.prog 12 #[.agg #[.bool true, .bool true, .bool true, .bool true, .bool true, .bool false, .bool true, .slice none 0 0, .slice none 0 0], .int .i64 n, .int .i64 (k % 5)] v fun e w' => e = .returned (.tuple #[.int .i64 x, .int .i64 0]) ∧ Below v.heap.size v w') := Lib.hid (fun v h => to_is14 (wcal (ox 5)) none 0 none 0 n (k % 5) x 0 v h (ox_may (by omega)) (cal_none v _ _ _) (by omega) h3)
  have HB := Lib.hid wb
  have HP := Lib.hid wp
  have HX := Lib.hid hx
  clear wb wp hx
  clear h1 h2 h3 h4
  go_enter Tryd.func7, Tryd.ntmps7
  go_wp2_with fail
  (with_reducible refine (roshown_any _ (H.factsW mh)).mono ?_)
  rintro e w1 ⟨rfl, hb⟩
  replace H := H.below hb
  clear hb
  go_wp2_with fail
  (with_reducible refine (QZ.out _ (H.factsW mh)).mono ?_)
  rintro e w2 ⟨rfl, hb⟩
  replace H := H.below hb
  clear hb
  go_wp2_with fail
  replace H := (H.box_9 (w2.heap.size) (.bool true) (.bool true) (.bool true) (.bool true) (.bool true) (.bool false) (.bool true) (.slice none 0 0) (.slice none 0 0) 26 rfl)
  (with_reducible refine (QN.out _ (H.factsW (mt8 (mt8 (mt1 (mt1 mh)))))).mono ?_)
  rintro e w3 ⟨rfl, hb⟩
  replace H := H.below hb
  clear hb
  have cc0 := H.cell (w2.heap.size) 0 (.bool true) mh
  have cc1 := H.cell (w2.heap.size) 1 (.bool true) (mt1 mh)
  have cc2 := H.cell (w2.heap.size) 2 (.bool true) (mt1 (mt1 mh))
  have cc3 := H.cell (w2.heap.size) 3 (.bool true) (mt1 (mt1 (mt1 mh)))
  have cc4 := H.cell (w2.heap.size) 4 (.bool true) (mt1 (mt1 (mt1 (mt1 mh))))
  have cc5 := H.cell (w2.heap.size) 5 (.bool false) (mt1 (mt1 (mt1 (mt1 (mt1 mh)))))
  have cc6 := H.cell (w2.heap.size) 6 (.bool true) (mt1 (mt1 (mt1 (mt1 (mt1 (mt1 mh))))))
  have cc7 := H.cell (w2.heap.size) 7 (.slice none 0 0) (mt1 (mt1 (mt1 (mt1 (mt1 (mt1 (mt1 mh)))))))
  have cc8 := H.cell (w2.heap.size) 8 (.slice none 0 0) (mt8 mh)
  have lc := H.lt (w2.heap.size) 0 (.bool true) mh
  go_wp2_with fail
  clear cc0 cc1 cc2 cc3 cc4 cc5 cc6 cc7 cc8 lc
  (with_reducible refine (QP.out _ (H.factsW (mt8 (mt8 (mt1 (mt1 mh)))))).mono ?_)
  rintro e w4 ⟨rfl, hb⟩
  replace H := H.below hb
  clear hb
  have cc0 := H.cell (w2.heap.size) 0 (.bool true) mh
  have cc1 := H.cell (w2.heap.size) 1 (.bool true) (mt1 mh)
  have cc2 := H.cell (w2.heap.size) 2 (.bool true) (mt1 (mt1 mh))
  have cc3 := H.cell (w2.heap.size) 3 (.bool true) (mt1 (mt1 (mt1 mh)))
  have cc4 := H.cell (w2.heap.size) 4 (.bool true) (mt1 (mt1 (mt1 (mt1 mh))))
  have cc5 := H.cell (w2.heap.size) 5 (.bool false) (mt1 (mt1 (mt1 (mt1 (mt1 mh)))))
  have cc6 := H.cell (w2.heap.size) 6 (.bool true) (mt1 (mt1 (mt1 (mt1 (mt1 (mt1 mh))))))
  have cc7 := H.cell (w2.heap.size) 7 (.slice none 0 0) (mt1 (mt1 (mt1 (mt1 (mt1 (mt1 (mt1 mh)))))))
  have cc8 := H.cell (w2.heap.size) 8 (.slice none 0 0) (mt8 mh)
  have lc := H.lt (w2.heap.size) 0 (.bool true) mh
  go_wp2_with fail
  clear cc0 cc1 cc2 cc3 cc4 cc5 cc6 cc7 cc8 lc
  (with_reducible refine (QT.out _ (H.factsW (mt8 (mt8 (mt1 (mt1 mh)))))).mono ?_)
  rintro e w5 ⟨rfl, hb⟩
  replace H := H.below hb
  clear hb
  repeat' (first | simp only [List.append_eq, List.cons_append, List.nil_append] | go_values | go_skip | go_guarded | go_step | go_upon)
  (with_reducible refine (rweek_is b 5 _ HB.out).mono ?_)
  rintro e w6 ⟨rfl, hb⟩
  replace H := H.below hb
  clear hb
  repeat' (first | simp only [List.append_eq, List.cons_append, List.nil_append] | go_values | go_skip | go_guarded | go_step | go_upon)
  (with_reducible refine (rweek_is p 5 _ HP.out).mono ?_)
  rintro e w7 ⟨rfl, hb⟩
  replace H := H.below hb
  clear hb
  rcases HX.out with ⟨xk, rfl⟩ | xb | xp
  · have y1 : (k % 5 == 0) = true := by simpa using xk
    repeat' (first | simp only [List.append_eq, List.cons_append, List.nil_append] | go_values | go_skip | go_guarded | go_step | go_upon)
    all_goals (first | (go_ret; exact ⟨rfl, H.old⟩) | (exfalso; have hu := undef_bool; simp_all))
  · have y2 : (x == b) = true := by simpa using xb
    cases y1 : (k % 5 == 0)
    · repeat' (first | simp only [List.append_eq, List.cons_append, List.nil_append] | go_values | go_skip | go_guarded | go_step | go_upon)
      all_goals (first | (go_ret; exact ⟨rfl, H.old⟩) | (exfalso; have hu := undef_bool; simp_all))
    cases y3 : (x == n)
    · repeat' (first | simp only [List.append_eq, List.cons_append, List.nil_append] | go_values | go_skip | go_guarded | go_step | go_upon)
      all_goals (first | (go_ret; exact ⟨rfl, H.old⟩) | (exfalso; have hu := undef_bool; simp_all))
    repeat' (first | simp only [List.append_eq, List.cons_append, List.nil_append] | go_values | go_skip | go_guarded | go_step | go_upon)
    all_goals (first | (go_ret; exact ⟨rfl, H.old⟩) | (exfalso; have hu := undef_bool; simp_all))
  · have y2 : (x == p) = true := by simpa using xp
    cases y1 : (k % 5 == 0)
    · cases y3 : (x == b)
      · repeat' (first | simp only [List.append_eq, List.cons_append, List.nil_append] | go_values | go_skip | go_guarded | go_step | go_upon)
        all_goals (first | (go_ret; exact ⟨rfl, H.old⟩) | (exfalso; have hu := undef_bool; simp_all))
      · repeat' (first | simp only [List.append_eq, List.cons_append, List.nil_append] | go_values | go_skip | go_guarded | go_step | go_upon)
        all_goals (first | (go_ret; exact ⟨rfl, H.old⟩) | (exfalso; have hu := undef_bool; simp_all))
    cases y3 : (x == n)
    · cases y4 : (x == b)
      · repeat' (first | simp only [List.append_eq, List.cons_append, List.nil_append] | go_values | go_skip | go_guarded | go_step | go_upon)
        all_goals (first | (go_ret; exact ⟨rfl, H.old⟩) | (exfalso; have hu := undef_bool; simp_all))
      · repeat' (first | simp only [List.append_eq, List.cons_append, List.nil_append] | go_values | go_skip | go_guarded | go_step | go_upon)
        all_goals (first | (go_ret; exact ⟨rfl, H.old⟩) | (exfalso; have hu := undef_bool; simp_all))
    repeat' (first | simp only [List.append_eq, List.cons_append, List.nil_append] | go_values | go_skip | go_guarded | go_step | go_upon)
    all_goals (first | (go_ret; exact ⟨rfl, H.old⟩) | (exfalso; have hu := undef_bool; simp_all))

set_option maxHeartbeats 8000000 in
set_option maxRecDepth 100000 in
theorem roopen_6 (n z k b p x : Int) (w : World) (hL : FactsW w) (bz : 0 ≤ z ∧ z < 256) (bk : 0 ≤ k ∧ k < 256) (hn : 7 ≤ n ∧ n ≤ 3652052) (hd : z % 7 = 6) (h1 : StepIs (wcal (ox 6)) 1 n b 0) (h2 : StepIs (wcal (ox 6)) (-1) n p 0) (h3 : ToIs (wcal (ox 6)) n (k % 5) x 0) (h4 : ToIs (wcal oz) n (k % 5) n 0) (fb : 0 ≤ b - n ∧ b - n ≤ 6) (fp : 0 ≤ n - p ∧ n - p ≤ 6) (wb : wk b = 6) (wp : wk p = 6) (hx : (k % 5 = 0 ∧ x = n) ∨ x = b ∨ x = p) :
    Calls Tryd.prog 7 #[.int .i64 n, .int .u8 z, .int .u8 k] w fun e w' => e = .returned (.bool true) ∧ Below w.heap.size w w' := by
  have H := (Held.start w).add (f := factsWF) hL
  clear hL
  have t0 : decide (n < 7) = false := decide_eq_false (by omega)
  have t1 : decide (n > 3652052) = false := decide_eq_false (by omega)
  have u1 : decide (b - n ≥ 0) = true := decide_eq_true (by omega)
  have u2 : decide (b - n ≤ 6) = true := decide_eq_true (by omega)
  have u3 : decide (n - p ≥ 0) = true := decide_eq_true (by omega)
  have u4 : decide (n - p ≤ 6) = true := decide_eq_true (by omega)
  have QZ : Hid (∀ v, FactsW v → Calls Tryd.prog 12 #[.agg #[.bool false, .bool false, .bool false, .bool false, .bool false, .bool false, .bool false, .slice none 0 0, .slice none 0 0], .int .i64 n, .int .i64 (k % 5)] v fun e w' => e = .returned (.tuple #[.int .i64 n, .int .i64 0]) ∧ Below v.heap.size v w') := Lib.hid (fun v h => to_is14 (wcal oz) none 0 none 0 n (k % 5) n 0 v h oz_may (cal_none v _ _ _) (by omega) h4)
  have QN : Hid (∀ v, FactsW v → Calls Tryd.prog 14 #[.agg #[.bool true, .bool true, .bool true, .bool true, .bool true, .bool true, .bool false, .slice none 0 0, .slice none 0 0], .int .i64 n] v fun e w' => e = .returned (.tuple #[.int .i64 b, .int .i64 0]) ∧ Below v.heap.size v w') := Lib.hid (fun v h => next_is (wcal (ox 6)) none 0 none 0 n b 0 v h (ox_may (by omega)) (cal_none v _ _ _) (by omega) h1)
  have QP : Hid (∀ v, FactsW v → Calls Tryd.prog 16 #[.agg #[.bool true, .bool true, .bool true, .bool true, .bool true, .bool true, .bool false, .slice none 0 0, .slice none 0 0], .int .i64 n] v fun e w' => e = .returned (.tuple #[.int .i64 p, .int .i64 0]) ∧ Below v.heap.size v w') := Lib.hid (fun v h => prev_is (wcal (ox 6)) none 0 none 0 n p 0 v h (ox_may (by omega)) (cal_none v _ _ _) (by omega) h2)
  have QT : Hid (∀ v, FactsW v → Calls Tryd.prog 12 #[.agg #[.bool true, .bool true, .bool true, .bool true, .bool true, .bool true, .bool false, .slice none 0 0, .slice none 0 0], .int .i64 n, .int .i64 (k % 5)] v fun e w' => e = .returned (.tuple #[.int .i64 x, .int .i64 0]) ∧ Below v.heap.size v w') := Lib.hid (fun v h => to_is14 (wcal (ox 6)) none 0 none 0 n (k % 5) x 0 v h (ox_may (by omega)) (cal_none v _ _ _) (by omega) h3)
  have HB := Lib.hid wb
  have HP := Lib.hid wp
  have HX := Lib.hid hx
  clear wb wp hx
  clear h1 h2 h3 h4
  go_enter Tryd.func7, Tryd.ntmps7
  go_wp2_with fail
  (with_reducible refine (roshown_any _ (H.factsW mh)).mono ?_)
  rintro e w1 ⟨rfl, hb⟩
  replace H := H.below hb
  clear hb
  go_wp2_with fail
  (with_reducible refine (QZ.out _ (H.factsW mh)).mono ?_)
  rintro e w2 ⟨rfl, hb⟩
  replace H := H.below hb
  clear hb
  go_wp2_with fail
  replace H := (H.box_9 (w2.heap.size) (.bool true) (.bool true) (.bool true) (.bool true) (.bool true) (.bool true) (.bool false) (.slice none 0 0) (.slice none 0 0) 26 rfl)
  (with_reducible refine (QN.out _ (H.factsW (mt8 (mt8 (mt1 (mt1 mh)))))).mono ?_)
  rintro e w3 ⟨rfl, hb⟩
  replace H := H.below hb
  clear hb
  have cc0 := H.cell (w2.heap.size) 0 (.bool true) mh
  have cc1 := H.cell (w2.heap.size) 1 (.bool true) (mt1 mh)
  have cc2 := H.cell (w2.heap.size) 2 (.bool true) (mt1 (mt1 mh))
  have cc3 := H.cell (w2.heap.size) 3 (.bool true) (mt1 (mt1 (mt1 mh)))
  have cc4 := H.cell (w2.heap.size) 4 (.bool true) (mt1 (mt1 (mt1 (mt1 mh))))
  have cc5 := H.cell (w2.heap.size) 5 (.bool true) (mt1 (mt1 (mt1 (mt1 (mt1 mh)))))
  have cc6 := H.cell (w2.heap.size) 6 (.bool false) (mt1 (mt1 (mt1 (mt1 (mt1 (mt1 mh))))))
  have cc7 := H.cell (w2.heap.size) 7 (.slice none 0 0) (mt1 (mt1 (mt1 (mt1 (mt1 (mt1 (mt1 mh)))))))
  have cc8 := H.cell (w2.heap.size) 8 (.slice none 0 0) (mt8 mh)
  have lc := H.lt (w2.heap.size) 0 (.bool true) mh
  go_wp2_with fail
  clear cc0 cc1 cc2 cc3 cc4 cc5 cc6 cc7 cc8 lc
  (with_reducible refine (QP.out _ (H.factsW (mt8 (mt8 (mt1 (mt1 mh)))))).mono ?_)
  rintro e w4 ⟨rfl, hb⟩
  replace H := H.below hb
  clear hb
  have cc0 := H.cell (w2.heap.size) 0 (.bool true) mh
  have cc1 := H.cell (w2.heap.size) 1 (.bool true) (mt1 mh)
  have cc2 := H.cell (w2.heap.size) 2 (.bool true) (mt1 (mt1 mh))
  have cc3 := H.cell (w2.heap.size) 3 (.bool true) (mt1 (mt1 (mt1 mh)))
  have cc4 := H.cell (w2.heap.size) 4 (.bool true) (mt1 (mt1 (mt1 (mt1 mh))))
  have cc5 := H.cell (w2.heap.size) 5 (.bool true) (mt1 (mt1 (mt1 (mt1 (mt1 mh)))))
  have cc6 := H.cell (w2.heap.size) 6 (.bool false) (mt1 (mt1 (mt1 (mt1 (mt1 (mt1 mh))))))
  have cc7 := H.cell (w2.heap.size) 7 (.slice none 0 0) (mt1 (mt1 (mt1 (mt1 (mt1 (mt1 (mt1 mh)))))))
  have cc8 := H.cell (w2.heap.size) 8 (.slice none 0 0) (mt8 mh)
  have lc := H.lt (w2.heap.size) 0 (.bool true) mh
  go_wp2_with fail
  clear cc0 cc1 cc2 cc3 cc4 cc5 cc6 cc7 cc8 lc
  (with_reducible refine (QT.out _ (H.factsW (mt8 (mt8 (mt1 (mt1 mh)))))).mono ?_)
  rintro e w5 ⟨rfl, hb⟩
  replace H := H.below hb
  clear hb
  repeat' (first | simp only [List.append_eq, List.cons_append, List.nil_append] | go_values | go_skip | go_guarded | go_step | go_upon)
  (with_reducible refine (rweek_is b 6 _ HB.out).mono ?_)
  rintro e w6 ⟨rfl, hb⟩
  replace H := H.below hb
  clear hb
  repeat' (first | simp only [List.append_eq, List.cons_append, List.nil_append] | go_values | go_skip | go_guarded | go_step | go_upon)
  (with_reducible refine (rweek_is p 6 _ HP.out).mono ?_)
  rintro e w7 ⟨rfl, hb⟩
  replace H := H.below hb
  clear hb
  rcases HX.out with ⟨xk, rfl⟩ | xb | xp
  · have y1 : (k % 5 == 0) = true := by simpa using xk
    repeat' (first | simp only [List.append_eq, List.cons_append, List.nil_append] | go_values | go_skip | go_guarded | go_step | go_upon)
    all_goals (first | (go_ret; exact ⟨rfl, H.old⟩) | (exfalso; have hu := undef_bool; simp_all))
  · have y2 : (x == b) = true := by simpa using xb
    cases y1 : (k % 5 == 0)
    · repeat' (first | simp only [List.append_eq, List.cons_append, List.nil_append] | go_values | go_skip | go_guarded | go_step | go_upon)
      all_goals (first | (go_ret; exact ⟨rfl, H.old⟩) | (exfalso; have hu := undef_bool; simp_all))
    cases y3 : (x == n)
    · repeat' (first | simp only [List.append_eq, List.cons_append, List.nil_append] | go_values | go_skip | go_guarded | go_step | go_upon)
      all_goals (first | (go_ret; exact ⟨rfl, H.old⟩) | (exfalso; have hu := undef_bool; simp_all))
    repeat' (first | simp only [List.append_eq, List.cons_append, List.nil_append] | go_values | go_skip | go_guarded | go_step | go_upon)
    all_goals (first | (go_ret; exact ⟨rfl, H.old⟩) | (exfalso; have hu := undef_bool; simp_all))
  · have y2 : (x == p) = true := by simpa using xp
    cases y1 : (k % 5 == 0)
    · cases y3 : (x == b)
      · repeat' (first | simp only [List.append_eq, List.cons_append, List.nil_append] | go_values | go_skip | go_guarded | go_step | go_upon)
        all_goals (first | (go_ret; exact ⟨rfl, H.old⟩) | (exfalso; have hu := undef_bool; simp_all))
      · repeat' (first | simp only [List.append_eq, List.cons_append, List.nil_append] | go_values | go_skip | go_guarded | go_step | go_upon)
        all_goals (first | (go_ret; exact ⟨rfl, H.old⟩) | (exfalso; have hu := undef_bool; simp_all))
    cases y3 : (x == n)
    · cases y4 : (x == b)
      · repeat' (first | simp only [List.append_eq, List.cons_append, List.nil_append] | go_values | go_skip | go_guarded | go_step | go_upon)
        all_goals (first | (go_ret; exact ⟨rfl, H.old⟩) | (exfalso; have hu := undef_bool; simp_all))
      · repeat' (first | simp only [List.append_eq, List.cons_append, List.nil_append] | go_values | go_skip | go_guarded | go_step | go_upon)
        all_goals (first | (go_ret; exact ⟨rfl, H.old⟩) | (exfalso; have hu := undef_bool; simp_all))
    repeat' (first | simp only [List.append_eq, List.cons_append, List.nil_append] | go_values | go_skip | go_guarded | go_step | go_upon)
    all_goals (first | (go_ret; exact ⟨rfl, H.old⟩) | (exfalso; have hu := undef_bool; simp_all))

theorem roopen_walk (n z k : Int) (w : World) (hL : FactsW w) (bz : 0 ≤ z ∧ z < 256) (bk : 0 ≤ k ∧ k < 256) :
    Calls Tryd.prog 7 #[.int .i64 n, .int .u8 z, .int .u8 k] w fun e w' => e = .returned (.bool true) ∧ Below w.heap.size w w' := by
  by_cases n1 : n < 7
  · exact roopen_low n z k w hL bz bk n1
  by_cases n2 : 3652052 < n
  · exact roopen_high n z k w hL bz bk (by omega) n2
  have hn : 7 ≤ n ∧ n ≤ 3652052 := ⟨by omega, by omega⟩
  have dn : dy n := by unfold dy; omega
  have h4 : ToIs (wcal oz) n (k % 5) n 0 := .stay (oz_is n dn) (by omega) (by omega)
  have hz : ∀ d : Nat, d < 7 → ∃ b p x, StepIs (wcal (ox d)) 1 n b 0 ∧ StepIs (wcal (ox d)) (-1) n p 0 ∧ ToIs (wcal (ox d)) n (k % 5) x 0 ∧ (0 ≤ b - n ∧ b - n ≤ 6) ∧ (0 ≤ n - p ∧ n - p ≤ 6) ∧ wk b = d ∧ wk p = d ∧ ((k % 5 = 0 ∧ x = n) ∨ x = b ∨ x = p) := fun d d7 => by
    obtain ⟨b, f, h1⟩ := step_is (wcal (ox d)) 1 n
    obtain ⟨p, g, h2⟩ := step_is (wcal (ox d)) (-1) n
    obtain ⟨x, h, h3⟩ := to_is (wcal (ox d)) n (k % 5)
    obtain ⟨rfl, b1, b2, b3⟩ := open_next d7 (fun m => ox_is m) h1 hn.1 hn.2
    obtain ⟨rfl, p1, p2, p3⟩ := open_prev d7 (fun m => ox_is m) h2 hn.1 hn.2
    obtain rfl := open_to h3 h1 h2 rfl rfl dn (by omega) (by omega)
    refine ⟨b, p, x, h1, h2, h3, ⟨b1, b2⟩, ⟨p1, p2⟩, b3, p3, ?_⟩
    rcases h3.one rfl h1 h2 with y | ⟨y, _⟩ | ⟨y, _⟩
    · exact Or.inl y
    · exact Or.inr (Or.inl y)
    · exact Or.inr (Or.inr y)
  rcases (show z % 7 = 0 ∨ z % 7 = 1 ∨ z % 7 = 2 ∨ z % 7 = 3 ∨ z % 7 = 4 ∨ z % 7 = 5 ∨ z % 7 = 6 by omega) with hd | hd | hd | hd | hd | hd | hd
  · obtain ⟨b, p, x, h1, h2, h3, fb, fp, wb, wp, hx⟩ := hz 0 (by omega)
    exact roopen_0 n z k b p x w hL bz bk hn hd h1 h2 h3 h4 fb fp wb wp hx
  · obtain ⟨b, p, x, h1, h2, h3, fb, fp, wb, wp, hx⟩ := hz 1 (by omega)
    exact roopen_1 n z k b p x w hL bz bk hn hd h1 h2 h3 h4 fb fp wb wp hx
  · obtain ⟨b, p, x, h1, h2, h3, fb, fp, wb, wp, hx⟩ := hz 2 (by omega)
    exact roopen_2 n z k b p x w hL bz bk hn hd h1 h2 h3 h4 fb fp wb wp hx
  · obtain ⟨b, p, x, h1, h2, h3, fb, fp, wb, wp, hx⟩ := hz 3 (by omega)
    exact roopen_3 n z k b p x w hL bz bk hn hd h1 h2 h3 h4 fb fp wb wp hx
  · obtain ⟨b, p, x, h1, h2, h3, fb, fp, wb, wp, hx⟩ := hz 4 (by omega)
    exact roopen_4 n z k b p x w hL bz bk hn hd h1 h2 h3 h4 fb fp wb wp hx
  · obtain ⟨b, p, x, h1, h2, h3, fb, fp, wb, wp, hx⟩ := hz 5 (by omega)
    exact roopen_5 n z k b p x w hL bz bk hn hd h1 h2 h3 h4 fb fp wb wp hx
  · obtain ⟨b, p, x, h1, h2, h3, fb, fp, wb, wp, hx⟩ := hz 6 (by omega)
    exact roopen_6 n z k b p x w hL bz bk hn hd h1 h2 h3 h4 fb fp wb wp hx
end Go.Proofs.YtkbhicdcjfpbaaaDoor
