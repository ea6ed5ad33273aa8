/- What is known of the tables while the walks of layer 8 go on (Facts); the three ways, as the walks ask them; the document's examples. -/
import Derived.Test.YtobdimekjhdefaaDoorAcSum
import Derived.Test.YtobdimekjhdefaaDoorAcErr
namespace Go.Proofs.YtobdimekjhdefaaDoor
open Go.RowKit
set_option linter.unusedVariables false

/-- What stands in the memory, whatever is made: civil's table, and both errors. -/
def Facts (w : World) : Prop := Lens w ∧ Errs w
theorem Facts.below {W W' : World} (h : Facts W) (hb : Below W.heap.size W W') : Facts W' := ⟨h.1.below hb, h.2.below hb⟩
def factsF : Fact := .that Facts (fun _ _ hb h => h.below hb)
theorem Held.facts {w W : World} {fs : List Fact} (h : Held w fs W) (hm : factsF ∈ fs) : Facts W := h.all _ hm
/-- What the three ways answer. -/
structure Ways : Prop where
  by360 : ∀ (a b p q c : Int) (w : World), Facts w → AcIs aX 360 a b p q c → Calls Tryd.prog 9 #[.int .i64 a, .int .i64 b] w fun e w' => e = .returned (.tuple #[.agg #[.int .i64 p, .int .i64 q], .int .i64 c]) ∧ Below w.heap.size w w'
  by365 : ∀ (a b p q c : Int) (w : World), Facts w → AcIs aX 365 a b p q c → Calls Tryd.prog 11 #[.int .i64 a, .int .i64 b] w fun e w' => e = .returned (.tuple #[.agg #[.int .i64 p, .int .i64 q], .int .i64 c]) ∧ Below w.heap.size w w'
  byyears : ∀ (a b p q c : Int) (w : World), Facts w → AcIs yX 133590 a b p q c → Calls Tryd.prog 13 #[.int .i64 a, .int .i64 b] w fun e w' => e = .returned (.tuple #[.agg #[.int .i64 p, .int .i64 q], .int .i64 c]) ∧ Below w.heap.size w w'

theorem lday8_is (y m d n : Int) (w : World) (h : nN y m d = n) : Calls Tryd.prog 17 #[.int .i64 y, .int .i64 m, .int .i64 d] w fun e w' => e = .returned (.int .i64 n) ∧ Below w.heap.size w w' := by
  obtain ⟨c, hc⟩ : ∃ c, nE y m d = c := ⟨_, rfl⟩
  have C := Lib.hid (fun v => rnumber_is y m d n c v ⟨h, hc⟩)
  clear h hc
  go_enter Tryd.func17, Tryd.ntmps17
  go_wp2_with fail
  (with_reducible refine (C.out _).mono ?_)
  rintro e w1 ⟨rfl, hb⟩
  go_wp2
  go_ret
  exact ⟨rfl, hb⟩

set_option maxHeartbeats 4000000 in
set_option maxRecDepth 100000 in
theorem ashown_any (K : Ways) (w : World) (hL : Facts w) : Calls Tryd.prog 8 #[] w fun e w' => e = .returned (.bool true) ∧ Below w.heap.size w w' := by
  have H := (Held.start w).add (f := factsF) hL
  clear hL
  go_enter Tryd.func8, Tryd.ntmps8
  go_wp2_with fail
  (with_reducible refine (lday8_is 2023 12 31 738885 _ (by decide +kernel)).mono ?_)
  rintro e w1 ⟨rfl, hb⟩
  replace H := H.below hb
  clear hb
  go_wp2_with fail
  (with_reducible refine (lday8_is 2024 1 2 738887 _ (by decide +kernel)).mono ?_)
  rintro e w2 ⟨rfl, hb⟩
  replace H := H.below hb
  clear hb
  go_wp2_with fail
  (with_reducible refine (K.by360 738885 738887 1 180 0 _ (H.facts (List.Mem.head _)) (ac_in 2023 12 31 2024 1 2 (by unfold may; decide +kernel) (by decide +kernel) (by unfold may; decide +kernel) (by decide +kernel) (by decide +kernel) (by decide +kernel) (by decide +kernel))).mono ?_)
  rintro e w3 ⟨rfl, hb⟩
  replace H := H.below hb
  clear hb
  go_wp2_with fail
  replace H := (H.pair (w3.heap.size) (.int .i64 1) (.int .i64 180) 24 rfl)
  (with_reducible refine (K.by365 738885 738887 2 365 0 _ (H.facts (List.Mem.tail _ (List.Mem.tail _ (List.Mem.tail _ (List.Mem.tail _ (List.Mem.head _)))))) (ac_in 2023 12 31 2024 1 2 (by unfold may; decide +kernel) (by decide +kernel) (by unfold may; decide +kernel) (by decide +kernel) (by decide +kernel) (by decide +kernel) (by decide +kernel))).mono ?_)
  rintro e w4 ⟨rfl, hb⟩
  replace H := H.below hb
  clear hb
  go_wp2_with fail
  replace H := (H.pair (w4.heap.size) (.int .i64 2) (.int .i64 365) 24 rfl)
  (with_reducible refine (K.byyears 738885 738887 731 133590 0 _ (H.facts (List.Mem.tail _ (List.Mem.tail _ (List.Mem.tail _ (List.Mem.tail _ (List.Mem.tail _ (List.Mem.tail _ (List.Mem.tail _ (List.Mem.tail _ (List.Mem.head _)))))))))) (ac_in 2023 12 31 2024 1 2 (by unfold may; decide +kernel) (by decide +kernel) (by unfold may; decide +kernel) (by decide +kernel) (by decide +kernel) (by decide +kernel) (by decide +kernel))).mono ?_)
  rintro e w5 ⟨rfl, hb⟩
  replace H := H.below hb
  clear hb
  go_wp2_with fail
  replace H := (H.pair (w5.heap.size) (.int .i64 731) (.int .i64 133590) 24 rfl)
  (with_reducible refine (K.byyears 738887 738885 0 0 4 _ (H.facts (List.Mem.tail _ (List.Mem.tail _ (List.Mem.tail _ (List.Mem.tail _ (List.Mem.tail _ (List.Mem.tail _ (List.Mem.tail _ (List.Mem.tail _ (List.Mem.tail _ (List.Mem.tail _ (List.Mem.tail _ (List.Mem.tail _ (List.Mem.head _)))))))))))))) (ac_order (by decide +kernel) (by decide +kernel) (by decide +kernel))).mono ?_)
  rintro e w6 ⟨rfl, hb⟩
  replace H := H.below hb
  clear hb
  go_wp2_with fail
  replace H := (H.alloc (.cells #[.int .i64 0, .int .i64 0] 24))
  (with_reducible refine (K.by360 0 738885 0 0 3 _ (H.facts (List.Mem.tail _ (List.Mem.tail _ (List.Mem.tail _ (List.Mem.tail _ (List.Mem.tail _ (List.Mem.tail _ (List.Mem.tail _ (List.Mem.tail _ (List.Mem.tail _ (List.Mem.tail _ (List.Mem.tail _ (List.Mem.tail _ (List.Mem.head _)))))))))))))) (ac_out (by decide +kernel))).mono ?_)
  rintro e w7 ⟨rfl, hb⟩
  replace H := H.below hb
  clear hb
  have ca0 := H.cell (w3.heap.size) 0 (.int .i64 1) (List.Mem.tail _ (List.Mem.tail _ (List.Mem.tail _ (List.Mem.tail _ (List.Mem.tail _ (List.Mem.tail _ (List.Mem.tail _ (List.Mem.tail _ (List.Mem.head _)))))))))
  have ca1 := H.cell (w3.heap.size) 1 (.int .i64 180) (List.Mem.tail _ (List.Mem.tail _ (List.Mem.tail _ (List.Mem.tail _ (List.Mem.tail _ (List.Mem.tail _ (List.Mem.tail _ (List.Mem.tail _ (List.Mem.tail _ (List.Mem.head _))))))))))
  have la := H.lt (w3.heap.size) 0 (.int .i64 1) (List.Mem.tail _ (List.Mem.tail _ (List.Mem.tail _ (List.Mem.tail _ (List.Mem.tail _ (List.Mem.tail _ (List.Mem.tail _ (List.Mem.tail _ (List.Mem.head _)))))))))
  have cb0 := H.cell (w4.heap.size) 0 (.int .i64 2) (List.Mem.tail _ (List.Mem.tail _ (List.Mem.tail _ (List.Mem.tail _ (List.Mem.head _)))))
  have cb1 := H.cell (w4.heap.size) 1 (.int .i64 365) (List.Mem.tail _ (List.Mem.tail _ (List.Mem.tail _ (List.Mem.tail _ (List.Mem.tail _ (List.Mem.head _))))))
  have lb := H.lt (w4.heap.size) 0 (.int .i64 2) (List.Mem.tail _ (List.Mem.tail _ (List.Mem.tail _ (List.Mem.tail _ (List.Mem.head _)))))
  have cc0 := H.cell (w5.heap.size) 0 (.int .i64 731) (List.Mem.head _)
  have cc1 := H.cell (w5.heap.size) 1 (.int .i64 133590) (List.Mem.tail _ (List.Mem.head _))
  have lc := H.lt (w5.heap.size) 0 (.int .i64 731) (List.Mem.head _)
  go_wp2_with fail
  clear ca0 ca1 la cb0 cb1 lb cc0 cc1 lc
  replace H := (H.alloc (.cells #[.int .i64 0, .int .i64 0] 24))
  go_ret
  exact ⟨rfl, H.old⟩
end Go.Proofs.YtobdimekjhdefaaDoor
