/- The document's examples, at the head of each statement of layer 6: they hold. -/
import Derived.Test.YtgdhpganognmlaaDoorIsIso
import Derived.Test.YtgdhpganognmlaaDoorIsRange
namespace Go.Proofs.YtgdhpganognmlaaDoor
open Go.RowKit
set_option linter.unusedVariables false

theorem day_of_is (n : Int) (b : Bool) (w : World) (h : decide (1 ≤ n ∧ n ≤ 3652059) = b) : Calls Tryd.prog 13 #[.int .i64 n] w fun e w' => e = .returned (.bool b) ∧ Below w.heap.size w w' := by
  subst h
  by_cases h1 : 1 ≤ n
  · have h2 : decide (1 ≤ n ∧ n ≤ 3652059) = decide (n ≤ 3652059) := by simp [h1]
    rw [h2]
    go_enter Tryd.func13, Tryd.ntmps13
    go_wp2
    go_ret
    exact ⟨rfl, Below.refl _ _⟩
  · have h2 : decide (1 ≤ n ∧ n ≤ 3652059) = false := by simp [h1]
    have h3 : decide (1 ≤ n) = false := by simp [h1]
    rw [h2]
    go_enter Tryd.func13, Tryd.ntmps13
    go_wp2
    go_ret
    exact ⟨rfl, Below.refl _ _⟩
theorem read_at (y m d n e : Int) (l : List UInt8) (hl : txt y m d = l) (y1 : 0 ≤ y ∧ y ≤ 9999) (m1 : 0 ≤ m ∧ m ≤ 99) (d1 : 0 ≤ d ∧ d ≤ 99) (h : nN y m d = n ∧ nE y m d = e) : ReadIs l n e := by
  rw [← hl, ← h.1, ← h.2]; exact read_txt y m d y1.1 y1.2 m1.1 m1.2 d1.1 d1.2
theorem read_short (l : List UInt8) (hl : l.length ≠ 10) : ReadIs l 0 10 :=
  Or.inr ⟨fun a b c d f g i j h => absurd (by rw [h]; rfl) hl, rfl, rfl⟩

set_option maxHeartbeats 4000000 in
set_option maxRecDepth 100000 in
theorem ishown_any (w : World) (hL : Tabs w) : Calls Tryd.prog 8 #[] w fun e w' => e = .returned (.bool true) ∧ Below w.heap.size w w' := by
  have H := (Held.start w).add (f := tabsF) hL
  clear hL
  go_enter Tryd.func8, Tryd.ntmps8
  go_wp2_with fail
  (with_reducible refine (show_any 738945 0 [50, 48, 50, 52, 45, 48, 50, 45, 50, 57] _ (H.tabs (List.Mem.head _)) (show_in 2024 2 29 (by unfold may; decide +kernel) (by decide +kernel) (by decide +kernel))).mono ?_)
  rintro e w1 ⟨rfl, hb⟩
  replace H := H.below hb
  clear hb
  go_wp2_with fail
  (with_reducible refine (read_any [50, 48, 50, 52, 45, 48, 50, 45, 50, 57] 738945 0 _ (H.tabs (List.Mem.head _)) (read_at 2024 2 29 _ _ _ (by decide +kernel) (by decide +kernel) (by decide +kernel) (by decide +kernel) (by decide +kernel))).mono ?_)
  rintro e w2 ⟨rfl, hb⟩
  replace H := H.below hb
  clear hb
  go_wp2_with fail
  (with_reducible refine (read_any [50, 48, 50, 51, 45, 48, 50, 45, 50, 57] 0 3 _ (H.tabs (List.Mem.head _)) (read_at 2023 2 29 _ _ _ (by decide +kernel) (by decide +kernel) (by decide +kernel) (by decide +kernel) (by decide +kernel))).mono ?_)
  rintro e w3 ⟨rfl, hb⟩
  replace H := H.below hb
  clear hb
  go_wp2_with fail
  (with_reducible refine (read_any [50, 48, 50, 52, 45, 50, 45, 50, 57] 0 10 _ (H.tabs (List.Mem.head _)) (read_short _ (by decide +kernel))).mono ?_)
  rintro e w4 ⟨rfl, hb⟩
  replace H := H.below hb
  clear hb
  go_wp2_with fail
  (with_reducible refine (show_any 0 3 [] _ (H.tabs (List.Mem.head _)) (show_out (by decide +kernel))).mono ?_)
  rintro e w5 ⟨rfl, hb⟩
  replace H := H.below hb
  clear hb
  go_wp2_with fail
  go_ret
  exact ⟨rfl, H.old⟩
end Go.Proofs.YtgdhpganognmlaaDoor
