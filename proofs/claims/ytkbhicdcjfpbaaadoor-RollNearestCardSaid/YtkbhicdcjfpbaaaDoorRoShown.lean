/- The document's example of layer 14. -/
import Derived.Test.YtkbhicdcjfpbaaaDoorRoRoll
import Derived.Test.YtkbhicdcjfpbaaaDoorRoRef
namespace Go.Proofs.YtkbhicdcjfpbaaaDoor
open Go.RowKit
set_option linter.unusedVariables false
set_option linter.unusedSimpArgs false

theorem lday14_is (y m d n : Int) (w : World) (h : nN y m d = n) : Calls Tryd.prog 26 #[.int .i64 y, .int .i64 m, .int .i64 d] w fun e w' => e = .returned (.int .i64 n) ∧ Below w.heap.size w w' := by
  obtain ⟨c, hc⟩ : ∃ c, nE y m d = c := ⟨_, rfl⟩
  have C := Lib.hid (fun v => rnumber_is y m d n c v ⟨h, hc⟩)
  clear h hc
  go_enter Tryd.func26, Tryd.ntmps26
  go_wp2_with fail
  (with_reducible refine (C.out _).mono ?_)
  rintro e w1 ⟨rfl, hb⟩
  go_wp2
  go_ret
  exact ⟨rfl, hb⟩
theorem undef_bool (b : Bool) : (some undef = some (Value.bool b)) = False := by simp [undef]
theorem oc_day (n : Int) (h : 1 ≤ n ∧ n ≤ 3652059) (g : (n - 1) % 7 < 5) : (wcal oc).Is n := by
  refine (wcal_is oc n).2 ⟨h, ?_⟩
  unfold oc wk
  exact decide_eq_false (by omega)
theorem oc_off (n : Int) (g : 5 ≤ (n - 1) % 7) : ¬ (wcal oc).Is n := fun h => by
  have := ((wcal_is oc n).1 h).2
  unfold oc wk at this
  have := of_decide_eq_false this
  omega
theorem shown_next : StepIs (wcal oc) 1 739129 739131 0 :=
  Or.inr (Or.inl ⟨by unfold dy; omega, 2, by omega, by omega, oc_day _ (by omega) (by omega), fun l hl => oc_off _ (by omega), rfl⟩)
theorem shown_prev : StepIs (wcal oc) (-1) 739129 739128 0 :=
  Or.inr (Or.inl ⟨by unfold dy; omega, 1, by omega, by omega, oc_day _ (by omega) (by omega), fun l hl => oc_off _ (by omega), rfl⟩)
theorem shown_mod : ModIs (wcal oc) 1 (-1) 739129 739128 0 :=
  ⟨739131, 0, shown_next, Or.inr ⟨⟨rfl, fun h => by
    have := (same_iff (n := 739129) (a := 739131) (y := 2024) (m := 8) (d := 31) (y' := 2024) (m' := 9) (d' := 2) (by unfold may; decide +kernel) (by decide +kernel) (by unfold may; decide +kernel) (by decide +kernel)).1 h
    omega⟩, shown_prev⟩⟩

set_option maxHeartbeats 4000000 in
set_option maxRecDepth 100000 in
theorem roshown_any (w : World) (hL : FactsW w) : Calls Tryd.prog 9 #[] w fun e w' => e = .returned (.bool true) ∧ Below w.heap.size w w' := by
  have H := (Held.start w).add (f := factsWF) hL
  clear hL
  have Q1 : Hid (∀ v, FactsW v → Calls Tryd.prog 12 #[.agg #[.bool false, .bool false, .bool false, .bool false, .bool false, .bool true, .bool true, .slice none 0 0, .slice none 0 0], .int .i64 739129, .int .i64 1] v fun e w' => e = .returned (.tuple #[.int .i64 739131, .int .i64 0]) ∧ Below v.heap.size v w') :=
    Lib.hid (fun v h => to_is14 (wcal oc) none 0 none 0 739129 1 739131 0 v h oc_may (cal_none v _ _ _) (by omega) (Or.inr (Or.inl ⟨rfl, shown_next⟩)))
  have Q2 : Hid (∀ v, FactsW v → Calls Tryd.prog 12 #[.agg #[.bool false, .bool false, .bool false, .bool false, .bool false, .bool true, .bool true, .slice none 0 0, .slice none 0 0], .int .i64 739129, .int .i64 2] v fun e w' => e = .returned (.tuple #[.int .i64 739128, .int .i64 0]) ∧ Below v.heap.size v w') :=
    Lib.hid (fun v h => to_is14 (wcal oc) none 0 none 0 739129 2 739128 0 v h oc_may (cal_none v _ _ _) (by omega) (Or.inr (Or.inr (Or.inl ⟨rfl, shown_mod⟩))))
  have Q3 : Hid (∀ v, FactsW v → Calls Tryd.prog 16 #[.agg #[.bool false, .bool false, .bool false, .bool false, .bool false, .bool true, .bool true, .slice none 0 0, .slice none 0 0], .int .i64 739129] v fun e w' => e = .returned (.tuple #[.int .i64 739128, .int .i64 0]) ∧ Below v.heap.size v w') :=
    Lib.hid (fun v h => prev_is (wcal oc) none 0 none 0 739129 739128 0 v h oc_may (cal_none v _ _ _) (by omega) shown_prev)
  have Q4 : Hid (∀ v, FactsW v → Calls Tryd.prog 14 #[.agg #[.bool false, .bool false, .bool false, .bool false, .bool false, .bool true, .bool true, .slice none 0 0, .slice none 0 0], .int .i64 739129] v fun e w' => e = .returned (.tuple #[.int .i64 739131, .int .i64 0]) ∧ Below v.heap.size v w') :=
    Lib.hid (fun v h => next_is (wcal oc) none 0 none 0 739129 739131 0 v h oc_may (cal_none v _ _ _) (by omega) shown_next)
  have Q5 : Hid (∀ v, FactsW v → Calls Tryd.prog 12 #[.agg #[.bool false, .bool false, .bool false, .bool false, .bool false, .bool true, .bool true, .slice none 0 0, .slice none 0 0], .int .i64 739129, .int .i64 5] v fun e w' => e = .returned (.tuple #[.int .i64 0, .int .i64 1]) ∧ Below v.heap.size v w') :=
    Lib.hid (fun v h => to_is14 (wcal oc) none 0 none 0 739129 5 0 1 v h oc_may (cal_none v _ _ _) (by omega) (Or.inr (Or.inr (Or.inr (Or.inr (Or.inr ⟨by omega, rfl, rfl⟩))))))
  have Q6 : Hid (∀ v, FactsW v → Calls Tryd.prog 12 #[.agg #[.bool false, .bool false, .bool false, .bool false, .bool false, .bool true, .bool true, .slice none 0 0, .slice none 0 0], .int .i64 0, .int .i64 0] v fun e w' => e = .returned (.tuple #[.int .i64 0, .int .i64 3]) ∧ Below v.heap.size v w') :=
    Lib.hid (fun v h => to_is14 (wcal oc) none 0 none 0 0 0 0 3 v h oc_may (cal_none v _ _ _) (by omega) (Or.inl ⟨rfl, Or.inr ⟨by unfold dy; omega, rfl, rfl⟩⟩))
  have Q7 : Hid (∀ v, FactsW v → Calls Tryd.prog 18 #[.string ⟨#[112, 114, 101, 99, 101, 100, 105, 110, 103]⟩] v fun e w' => e = .returned (.tuple #[.int .i64 3, .int .i64 0]) ∧ Below v.heap.size v w') := Lib.hid (fun v h => kind14 ⟨#[112, 114, 101, 99, 101, 100, 105, 110, 103]⟩ 3 0 v h (by decide +kernel))
  have Q8 : Hid (∀ v, FactsW v → Calls Tryd.prog 20 #[.int .i64 0] v fun e w' => e = .returned (.string ⟨#[110, 111, 110, 101]⟩) ∧ Below v.heap.size v w') := Lib.hid (fun v h => name14 0 _ v h rn_0)
  have Q9 : Hid (∀ v, FactsW v → Calls Tryd.prog 20 #[.int .i64 5] v fun e w' => e = .returned (.string ⟨#[]⟩) ∧ Below v.heap.size v w') := Lib.hid (fun v h => name14 5 _ v h (rn_out 5 (by omega)))
  have D1 := Lib.hid (fun v => lday14_is 2024 8 31 739129 v (by decide +kernel))
  have D2 := Lib.hid (fun v => lday14_is 2024 9 2 739131 v (by decide +kernel))
  have D3 := Lib.hid (fun v => lday14_is 2024 8 30 739128 v (by decide +kernel))
  go_enter Tryd.func9, Tryd.ntmps9
  go_wp2_with fail
  replace H := (H.box_9 (w.heap.size) (.bool false) (.bool false) (.bool false) (.bool false) (.bool false) (.bool true) (.bool true) (.slice none 0 0) (.slice none 0 0) 26 rfl)
  (with_reducible refine (D1.out _).mono ?_)
  rintro e w1 ⟨rfl, hb⟩
  replace H := H.below hb
  clear hb
  have cc0 := H.cell (w.heap.size) 0 (.bool false) mh
  have cc1 := H.cell (w.heap.size) 1 (.bool false) (mt1 mh)
  have cc2 := H.cell (w.heap.size) 2 (.bool false) (mt1 (mt1 mh))
  have cc3 := H.cell (w.heap.size) 3 (.bool false) (mt1 (mt1 (mt1 mh)))
  have cc4 := H.cell (w.heap.size) 4 (.bool false) (mt1 (mt1 (mt1 (mt1 mh))))
  have cc5 := H.cell (w.heap.size) 5 (.bool true) (mt1 (mt1 (mt1 (mt1 (mt1 mh)))))
  have cc6 := H.cell (w.heap.size) 6 (.bool true) (mt1 (mt1 (mt1 (mt1 (mt1 (mt1 mh))))))
  have cc7 := H.cell (w.heap.size) 7 (.slice none 0 0) (mt1 (mt1 (mt1 (mt1 (mt1 (mt1 (mt1 mh)))))))
  have cc8 := H.cell (w.heap.size) 8 (.slice none 0 0) (mt8 mh)
  have lc := H.lt (w.heap.size) 0 (.bool false) mh
  go_wp2_with fail
  clear cc0 cc1 cc2 cc3 cc4 cc5 cc6 cc7 cc8 lc
  (with_reducible refine (Q1.out _ (H.factsW (mt8 (mt8 (mt1 (mt1 mh)))))).mono ?_)
  rintro e w2 ⟨rfl, hb⟩
  replace H := H.below hb
  clear hb
  have cc0 := H.cell (w.heap.size) 0 (.bool false) mh
  have cc1 := H.cell (w.heap.size) 1 (.bool false) (mt1 mh)
  have cc2 := H.cell (w.heap.size) 2 (.bool false) (mt1 (mt1 mh))
  have cc3 := H.cell (w.heap.size) 3 (.bool false) (mt1 (mt1 (mt1 mh)))
  have cc4 := H.cell (w.heap.size) 4 (.bool false) (mt1 (mt1 (mt1 (mt1 mh))))
  have cc5 := H.cell (w.heap.size) 5 (.bool true) (mt1 (mt1 (mt1 (mt1 (mt1 mh)))))
  have cc6 := H.cell (w.heap.size) 6 (.bool true) (mt1 (mt1 (mt1 (mt1 (mt1 (mt1 mh))))))
  have cc7 := H.cell (w.heap.size) 7 (.slice none 0 0) (mt1 (mt1 (mt1 (mt1 (mt1 (mt1 (mt1 mh)))))))
  have cc8 := H.cell (w.heap.size) 8 (.slice none 0 0) (mt8 mh)
  have lc := H.lt (w.heap.size) 0 (.bool false) mh
  go_wp2_with fail
  clear cc0 cc1 cc2 cc3 cc4 cc5 cc6 cc7 cc8 lc
  (with_reducible refine (Q2.out _ (H.factsW (mt8 (mt8 (mt1 (mt1 mh)))))).mono ?_)
  rintro e w3 ⟨rfl, hb⟩
  replace H := H.below hb
  clear hb
  have cc0 := H.cell (w.heap.size) 0 (.bool false) mh
  have cc1 := H.cell (w.heap.size) 1 (.bool false) (mt1 mh)
  have cc2 := H.cell (w.heap.size) 2 (.bool false) (mt1 (mt1 mh))
  have cc3 := H.cell (w.heap.size) 3 (.bool false) (mt1 (mt1 (mt1 mh)))
  have cc4 := H.cell (w.heap.size) 4 (.bool false) (mt1 (mt1 (mt1 (mt1 mh))))
  have cc5 := H.cell (w.heap.size) 5 (.bool true) (mt1 (mt1 (mt1 (mt1 (mt1 mh)))))
  have cc6 := H.cell (w.heap.size) 6 (.bool true) (mt1 (mt1 (mt1 (mt1 (mt1 (mt1 mh))))))
  have cc7 := H.cell (w.heap.size) 7 (.slice none 0 0) (mt1 (mt1 (mt1 (mt1 (mt1 (mt1 (mt1 mh)))))))
  have cc8 := H.cell (w.heap.size) 8 (.slice none 0 0) (mt8 mh)
  have lc := H.lt (w.heap.size) 0 (.bool false) mh
  go_wp2_with fail
  clear cc0 cc1 cc2 cc3 cc4 cc5 cc6 cc7 cc8 lc
  (with_reducible refine (Q3.out _ (H.factsW (mt8 (mt8 (mt1 (mt1 mh)))))).mono ?_)
  rintro e w4 ⟨rfl, hb⟩
  replace H := H.below hb
  clear hb
  have cc0 := H.cell (w.heap.size) 0 (.bool false) mh
  have cc1 := H.cell (w.heap.size) 1 (.bool false) (mt1 mh)
  have cc2 := H.cell (w.heap.size) 2 (.bool false) (mt1 (mt1 mh))
  have cc3 := H.cell (w.heap.size) 3 (.bool false) (mt1 (mt1 (mt1 mh)))
  have cc4 := H.cell (w.heap.size) 4 (.bool false) (mt1 (mt1 (mt1 (mt1 mh))))
  have cc5 := H.cell (w.heap.size) 5 (.bool true) (mt1 (mt1 (mt1 (mt1 (mt1 mh)))))
  have cc6 := H.cell (w.heap.size) 6 (.bool true) (mt1 (mt1 (mt1 (mt1 (mt1 (mt1 mh))))))
  have cc7 := H.cell (w.heap.size) 7 (.slice none 0 0) (mt1 (mt1 (mt1 (mt1 (mt1 (mt1 (mt1 mh)))))))
  have cc8 := H.cell (w.heap.size) 8 (.slice none 0 0) (mt8 mh)
  have lc := H.lt (w.heap.size) 0 (.bool false) mh
  go_wp2_with fail
  clear cc0 cc1 cc2 cc3 cc4 cc5 cc6 cc7 cc8 lc
  (with_reducible refine (Q4.out _ (H.factsW (mt8 (mt8 (mt1 (mt1 mh)))))).mono ?_)
  rintro e w5 ⟨rfl, hb⟩
  replace H := H.below hb
  clear hb
  have cc0 := H.cell (w.heap.size) 0 (.bool false) mh
  have cc1 := H.cell (w.heap.size) 1 (.bool false) (mt1 mh)
  have cc2 := H.cell (w.heap.size) 2 (.bool false) (mt1 (mt1 mh))
  have cc3 := H.cell (w.heap.size) 3 (.bool false) (mt1 (mt1 (mt1 mh)))
  have cc4 := H.cell (w.heap.size) 4 (.bool false) (mt1 (mt1 (mt1 (mt1 mh))))
  have cc5 := H.cell (w.heap.size) 5 (.bool true) (mt1 (mt1 (mt1 (mt1 (mt1 mh)))))
  have cc6 := H.cell (w.heap.size) 6 (.bool true) (mt1 (mt1 (mt1 (mt1 (mt1 (mt1 mh))))))
  have cc7 := H.cell (w.heap.size) 7 (.slice none 0 0) (mt1 (mt1 (mt1 (mt1 (mt1 (mt1 (mt1 mh)))))))
  have cc8 := H.cell (w.heap.size) 8 (.slice none 0 0) (mt8 mh)
  have lc := H.lt (w.heap.size) 0 (.bool false) mh
  go_wp2_with fail
  clear cc0 cc1 cc2 cc3 cc4 cc5 cc6 cc7 cc8 lc
  (with_reducible refine (Q5.out _ (H.factsW (mt8 (mt8 (mt1 (mt1 mh)))))).mono ?_)
  rintro e w6 ⟨rfl, hb⟩
  replace H := H.below hb
  clear hb
  have cc0 := H.cell (w.heap.size) 0 (.bool false) mh
  have cc1 := H.cell (w.heap.size) 1 (.bool false) (mt1 mh)
  have cc2 := H.cell (w.heap.size) 2 (.bool false) (mt1 (mt1 mh))
  have cc3 := H.cell (w.heap.size) 3 (.bool false) (mt1 (mt1 (mt1 mh)))
  have cc4 := H.cell (w.heap.size) 4 (.bool false) (mt1 (mt1 (mt1 (mt1 mh))))
  have cc5 := H.cell (w.heap.size) 5 (.bool true) (mt1 (mt1 (mt1 (mt1 (mt1 mh)))))
  have cc6 := H.cell (w.heap.size) 6 (.bool true) (mt1 (mt1 (mt1 (mt1 (mt1 (mt1 mh))))))
  have cc7 := H.cell (w.heap.size) 7 (.slice none 0 0) (mt1 (mt1 (mt1 (mt1 (mt1 (mt1 (mt1 mh)))))))
  have cc8 := H.cell (w.heap.size) 8 (.slice none 0 0) (mt8 mh)
  have lc := H.lt (w.heap.size) 0 (.bool false) mh
  go_wp2_with fail
  clear cc0 cc1 cc2 cc3 cc4 cc5 cc6 cc7 cc8 lc
  (with_reducible refine (Q6.out _ (H.factsW (mt8 (mt8 (mt1 (mt1 mh)))))).mono ?_)
  rintro e w7 ⟨rfl, hb⟩
  replace H := H.below hb
  clear hb
  go_wp2_with fail
  (with_reducible refine (Q7.out _ (H.factsW (mt8 (mt8 (mt1 (mt1 mh)))))).mono ?_)
  rintro e w8 ⟨rfl, hb⟩
  replace H := H.below hb
  clear hb
  go_wp2_with fail
  (with_reducible refine (D2.out _).mono ?_)
  rintro e w9 ⟨rfl, hb⟩
  replace H := H.below hb
  clear hb
  go_wp2_with fail
  (with_reducible refine (D3.out _).mono ?_)
  rintro e w10 ⟨rfl, hb⟩
  replace H := H.below hb
  clear hb
  go_wp2_with fail
  (with_reducible refine (Q8.out _ (H.factsW (mt8 (mt8 (mt1 (mt1 mh)))))).mono ?_)
  rintro e w11 ⟨rfl, hb⟩
  replace H := H.below hb
  clear hb
  go_wp2_with fail
  (with_reducible refine (Q9.out _ (H.factsW (mt8 (mt8 (mt1 (mt1 mh)))))).mono ?_)
  rintro e w12 ⟨rfl, hb⟩
  replace H := H.below hb
  clear hb
  go_wp2_with fail
  go_ret
  exact ⟨rfl, H.old⟩
end Go.Proofs.YtkbhicdcjfpbaaaDoor
