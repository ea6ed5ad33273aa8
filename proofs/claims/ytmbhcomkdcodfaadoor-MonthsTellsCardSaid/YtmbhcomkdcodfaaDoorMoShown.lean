/- The document's examples, at the head of each statement of layer 5: they hold. Which numbers are days; the statements' own day. -/
import Derived.Test.YtmbhcomkdcodfaaDoorMoMonths
import Derived.Test.YtmbhcomkdcodfaaDoorMoRef
namespace Go.Proofs.YtmbhcomkdcodfaaDoor
open Go.RowKit
set_option linter.unusedVariables false

theorem rday_is (n : Int) (b : Bool) (w : World) (h : decide (1 ≤ n ∧ n ≤ 3652059) = b) : Calls Tryd.prog 18 #[.int .i64 n] w fun e w' => e = .returned (.bool b) ∧ Below w.heap.size w w' := by
  subst h
  by_cases h1 : 1 ≤ n
  · have h2 : decide (1 ≤ n ∧ n ≤ 3652059) = decide (n ≤ 3652059) := by simp [h1]
    rw [h2]
    go_enter Tryd.func18, Tryd.ntmps18
    go_wp2
    go_ret
    exact ⟨rfl, Below.refl _ _⟩
  · have h2 : decide (1 ≤ n ∧ n ≤ 3652059) = false := by simp [h1]
    have h3 : decide (1 ≤ n) = false := by simp [h1]
    rw [h2]
    go_enter Tryd.func18, Tryd.ntmps18
    go_wp2
    go_ret
    exact ⟨rfl, Below.refl _ _⟩
theorem lday_is (y m d n : Int) (w : World) (h : nN y m d = n) : Calls Tryd.prog 21 #[.int .i64 y, .int .i64 m, .int .i64 d] w fun e w' => e = .returned (.int .i64 n) ∧ Below w.heap.size w w' := by
  obtain ⟨c, hc⟩ : ∃ c, nE y m d = c := ⟨_, rfl⟩
  have C := Lib.hid (fun v => rnumber_is y m d n c v ⟨h, hc⟩)
  clear h hc
  go_enter Tryd.func21, Tryd.ntmps21
  go_wp2_with fail
  (with_reducible refine (C.out _).mono ?_)
  rintro e w1 ⟨rfl, hb⟩
  go_wp2
  go_ret
  exact ⟨rfl, hb⟩

set_option maxHeartbeats 4000000 in
set_option maxRecDepth 100000 in
theorem mshown_any (w : World) (hL : Lens w) : Calls Tryd.prog 9 #[] w fun e w' => e = .returned (.bool true) ∧ Below w.heap.size w w' := by
  have H := (Held.start w).add (f := lensF) hL
  clear hL
  go_enter Tryd.func9, Tryd.ntmps9
  go_wp2_with fail
  (with_reducible refine (lday_is 2024 1 31 738916 _ (by decide +kernel)).mono ?_)
  rintro e w1 ⟨rfl, hb⟩
  replace H := H.below hb
  clear hb
  go_wp2_with fail
  (with_reducible refine (shift_any 738916 1 738945 0 _ (H.lens (List.Mem.head _)) (move_in 2024 1 31 2024 2 29 (by unfold may; decide +kernel) (by decide +kernel) (by decide +kernel) (by decide +kernel) (by decide +kernel) (by decide +kernel) (by decide +kernel) (by decide +kernel) (by decide +kernel))).mono ?_)
  rintro e w2 ⟨rfl, hb⟩
  replace H := H.below hb
  clear hb
  go_wp2_with fail
  (with_reducible refine (lday_is 2023 2 28 738579 _ (by decide +kernel)).mono ?_)
  rintro e w3 ⟨rfl, hb⟩
  replace H := H.below hb
  clear hb
  go_wp2_with fail
  (with_reducible refine (move_any 738579 1 738610 0 true _ (H.lens (List.Mem.head _)) (move_in 2023 2 28 2023 3 31 (by unfold may; decide +kernel) (by decide +kernel) (by decide +kernel) (by decide +kernel) (by decide +kernel) (by decide +kernel) (by decide +kernel) (by decide +kernel) (by decide +kernel))).mono ?_)
  rintro e w4 ⟨rfl, hb⟩
  replace H := H.below hb
  clear hb
  go_wp2_with fail
  (with_reducible refine (lday_is 2023 2 28 738579 _ (by decide +kernel)).mono ?_)
  rintro e w5 ⟨rfl, hb⟩
  replace H := H.below hb
  clear hb
  go_wp2_with fail
  (with_reducible refine (move_any 738579 1 738607 0 false _ (H.lens (List.Mem.head _)) (move_in 2023 2 28 2023 3 28 (by unfold may; decide +kernel) (by decide +kernel) (by decide +kernel) (by decide +kernel) (by decide +kernel) (by decide +kernel) (by decide +kernel) (by decide +kernel) (by decide +kernel))).mono ?_)
  rintro e w6 ⟨rfl, hb⟩
  replace H := H.below hb
  clear hb
  go_wp2_with fail
  (with_reducible refine (lday_is 2024 2 3 738919 _ (by decide +kernel)).mono ?_)
  rintro e w7 ⟨rfl, hb⟩
  replace H := H.below hb
  clear hb
  go_wp2_with fail
  (with_reducible refine (end_any 738919 738945 0 _ (H.lens (List.Mem.head _)) (end_in 2024 2 3 (by unfold may; decide +kernel) (by decide +kernel) (by decide +kernel))).mono ?_)
  rintro e w8 ⟨rfl, hb⟩
  replace H := H.below hb
  clear hb
  go_wp2_with fail
  (with_reducible refine (lday_is 1 1 5 5 _ (by decide +kernel)).mono ?_)
  rintro e w9 ⟨rfl, hb⟩
  replace H := H.below hb
  clear hb
  go_wp2_with fail
  (with_reducible refine (shift_any 5 (-1) 0 3 _ (H.lens (List.Mem.head _)) (move_far 1 1 5 (by unfold may; decide +kernel) (by decide +kernel) (by decide +kernel))).mono ?_)
  rintro e w10 ⟨rfl, hb⟩
  replace H := H.below hb
  clear hb
  go_wp2_with fail
  (with_reducible refine (end_any 0 0 3 _ (H.lens (List.Mem.head _)) (end_out (by decide +kernel))).mono ?_)
  rintro e w11 ⟨rfl, hb⟩
  replace H := H.below hb
  clear hb
  go_wp2_with fail
  (with_reducible refine (lday_is 2024 2 29 738945 _ (by decide +kernel)).mono ?_)
  rintro e w12 ⟨rfl, hb⟩
  replace H := H.below hb
  clear hb
  go_wp2_with fail
  (with_reducible refine (lday_is 2023 3 31 738610 _ (by decide +kernel)).mono ?_)
  rintro e w13 ⟨rfl, hb⟩
  replace H := H.below hb
  clear hb
  go_wp2_with fail
  (with_reducible refine (lday_is 2023 3 28 738607 _ (by decide +kernel)).mono ?_)
  rintro e w14 ⟨rfl, hb⟩
  replace H := H.below hb
  clear hb
  go_wp2_with fail
  (with_reducible refine (lday_is 2024 2 29 738945 _ (by decide +kernel)).mono ?_)
  rintro e w15 ⟨rfl, hb⟩
  replace H := H.below hb
  clear hb
  go_wp2_with fail
  (with_reducible refine (last_any 738945 true _ (H.lens (List.Mem.head _)) (last_in 2024 2 29 (by unfold may; decide +kernel) (by decide +kernel) (by decide +kernel))).mono ?_)
  rintro e w16 ⟨rfl, hb⟩
  replace H := H.below hb
  clear hb
  go_wp2_with fail
  (with_reducible refine (last_any 738944 false _ (H.lens (List.Mem.head _)) (last_in 2024 2 28 (by unfold may; decide +kernel) (by decide +kernel) (by decide +kernel))).mono ?_)
  rintro e w17 ⟨rfl, hb⟩
  replace H := H.below hb
  clear hb
  go_wp2_with fail
  (with_reducible refine (last_any 0 false _ (H.lens (List.Mem.head _)) (last_out (by decide +kernel))).mono ?_)
  rintro e w18 ⟨rfl, hb⟩
  replace H := H.below hb
  clear hb
  go_wp2_with fail
  go_ret
  exact ⟨rfl, H.old⟩
end Go.Proofs.YtmbhcomkdcodfaaDoor
