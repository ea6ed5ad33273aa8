/- The three ways to count, as the walks ask them; the document's examples, at the head of each statement of layer 7. -/
import Derived.Test.YtkmjaoiehmddcaaDoorTyUs
import Derived.Test.YtkmjaoiehmddcaaDoorMoMonths
namespace Go.Proofs.YtkmjaoiehmddcaaDoor
open Go.RowKit
set_option linter.unusedVariables false

/-- What the three ways answer. -/
structure Ways : Prop where
  us : ∀ (a b p q c : Int) (t : Bool) (w : World), Lens w → PartIs (uX t) a b p q c → Calls Tryd.prog 10 #[.int .i64 a, .int .i64 b, .bool t] w fun e w' => e = .returned (.tuple #[.agg #[.int .i64 p, .int .i64 q], .int .i64 c]) ∧ Below w.heap.size w w'
  e : ∀ (a b p q c : Int) (w : World), Lens w → PartIs eX a b p q c → Calls Tryd.prog 12 #[.int .i64 a, .int .i64 b] w fun e w' => e = .returned (.tuple #[.agg #[.int .i64 p, .int .i64 q], .int .i64 c]) ∧ Below w.heap.size w w'
  isda : ∀ (a b k p q c : Int) (w : World), Lens w → PartIs (iX (decide (b = k))) a b p q c → Calls Tryd.prog 14 #[.int .i64 a, .int .i64 b, .int .i64 k] w fun e w' => e = .returned (.tuple #[.agg #[.int .i64 p, .int .i64 q], .int .i64 c]) ∧ Below w.heap.size w w'
theorem part_out {X : Int → Int → Int → Int → Int → Int → Int} {a b : Int} (h : (a < 1 ∨ 3652059 < a) ∨ (b < 1 ∨ 3652059 < b)) : PartIs X a b 0 0 3 := Or.inr (Or.inl ⟨h, rfl, rfl, rfl⟩)
theorem part_order {X : Int → Int → Int → Int → Int → Int → Int} {a b : Int} (h1 : 1 ≤ a ∧ a ≤ 3652059) (h2 : 1 ≤ b ∧ b ≤ 3652059) (h : b < a) : PartIs X a b 0 0 4 := Or.inr (Or.inr ⟨h1, h2, h, rfl, rfl, rfl⟩)
theorem refnew_is (n d p q c : Int) (w : World) (n0 : 0 ≤ n) (n1 : n < 9223372036854775808) (d0 : 0 < d) (d1 : d < 9223372036854775808) (h : rN n d = p ∧ rD n d = q ∧ rE n d = c) :
    Calls Tryd.prog 19 #[.int .i64 n, .int .i64 d] w fun e w' => e = .returned (.tuple #[.agg #[.int .i64 p, .int .i64 q], .int .i64 c]) ∧ Below w.heap.size w w' := by
  obtain ⟨rfl, rfl, rfl⟩ := h; exact refnew_any n d w n0 n1 d0 d1
theorem lday7_is (y m d n : Int) (w : World) (h : nN y m d = n) : Calls Tryd.prog 25 #[.int .i64 y, .int .i64 m, .int .i64 d] w fun e w' => e = .returned (.int .i64 n) ∧ Below w.heap.size w w' := by
  obtain ⟨c, hc⟩ : ∃ c, nE y m d = c := ⟨_, rfl⟩
  have C := Lib.hid (fun v => rnumber_is y m d n c v ⟨h, hc⟩)
  clear h hc
  go_enter Tryd.func25, Tryd.ntmps25
  go_wp2_with fail
  (with_reducible refine (C.out _).mono ?_)
  rintro e w1 ⟨rfl, hb⟩
  go_wp2
  go_ret
  exact ⟨rfl, hb⟩

set_option maxHeartbeats 4000000 in
set_option maxRecDepth 100000 in
theorem tshown_any (K : Ways) (w : World) (hL : Lens w) : Calls Tryd.prog 9 #[] w fun e w' => e = .returned (.bool true) ∧ Below w.heap.size w w' := by
  have H := (Held.start w).add (f := lensF) hL
  clear hL
  go_enter Tryd.func9, Tryd.ntmps9
  go_wp2_with fail
  (with_reducible refine (lday7_is 2024 1 31 738916 _ (by decide +kernel)).mono ?_)
  rintro e w1 ⟨rfl, hb⟩
  replace H := H.below hb
  clear hb
  go_wp2_with fail
  (with_reducible refine (lday7_is 2024 3 31 738976 _ (by decide +kernel)).mono ?_)
  rintro e w2 ⟨rfl, hb⟩
  replace H := H.below hb
  clear hb
  go_wp2_with fail
  (with_reducible refine (K.us 738916 738976 1 6 0 false _ (H.lens (List.Mem.head _)) (part_in 2024 1 31 2024 3 31 (by unfold may; decide +kernel) (by decide +kernel) (by unfold may; decide +kernel) (by decide +kernel) (by decide +kernel) 60 (by decide +kernel) (by decide +kernel) (by decide +kernel))).mono ?_)
  rintro e w3 ⟨rfl, hb⟩
  replace H := H.below hb
  clear hb
  go_wp2_with fail
  replace H := (H.pair (w3.heap.size) (.int .i64 1) (.int .i64 6) 26 rfl)
  (with_reducible refine (K.e 738916 738976 1 6 0 _ (H.lens (List.Mem.tail _ (List.Mem.tail _ (List.Mem.tail _ (List.Mem.tail _ (List.Mem.head _)))))) (part_in 2024 1 31 2024 3 31 (by unfold may; decide +kernel) (by decide +kernel) (by unfold may; decide +kernel) (by decide +kernel) (by decide +kernel) 60 (by decide +kernel) (by decide +kernel) (by decide +kernel))).mono ?_)
  rintro e w4 ⟨rfl, hb⟩
  replace H := H.below hb
  clear hb
  go_wp2_with fail
  replace H := (H.pair (w4.heap.size) (.int .i64 1) (.int .i64 6) 26 rfl)
  (with_reducible refine (K.isda 738916 738976 0 1 6 0 _ (H.lens (List.Mem.tail _ (List.Mem.tail _ (List.Mem.tail _ (List.Mem.tail _ (List.Mem.tail _ (List.Mem.tail _ (List.Mem.tail _ (List.Mem.tail _ (List.Mem.head _)))))))))) (part_in 2024 1 31 2024 3 31 (by unfold may; decide +kernel) (by decide +kernel) (by unfold may; decide +kernel) (by decide +kernel) (by decide +kernel) 60 (by decide +kernel) (by decide +kernel) (by decide +kernel))).mono ?_)
  rintro e w5 ⟨rfl, hb⟩
  replace H := H.below hb
  clear hb
  go_wp2_with fail
  replace H := (H.pair (w5.heap.size) (.int .i64 1) (.int .i64 6) 26 rfl)
  (with_reducible refine (lday7_is 2023 2 28 738579 _ (by decide +kernel)).mono ?_)
  rintro e w6 ⟨rfl, hb⟩
  replace H := H.below hb
  clear hb
  go_wp2_with fail
  (with_reducible refine (lday7_is 2023 3 31 738610 _ (by decide +kernel)).mono ?_)
  rintro e w7 ⟨rfl, hb⟩
  replace H := H.below hb
  clear hb
  go_wp2_with fail
  (with_reducible refine (K.e 738579 738610 4 45 0 _ (H.lens (List.Mem.tail _ (List.Mem.tail _ (List.Mem.tail _ (List.Mem.tail _ (List.Mem.tail _ (List.Mem.tail _ (List.Mem.tail _ (List.Mem.tail _ (List.Mem.tail _ (List.Mem.tail _ (List.Mem.tail _ (List.Mem.tail _ (List.Mem.head _)))))))))))))) (part_in 2023 2 28 2023 3 31 (by unfold may; decide +kernel) (by decide +kernel) (by unfold may; decide +kernel) (by decide +kernel) (by decide +kernel) 32 (by decide +kernel) (by decide +kernel) (by decide +kernel))).mono ?_)
  rintro e w8 ⟨rfl, hb⟩
  replace H := H.below hb
  clear hb
  go_wp2_with fail
  replace H := (H.pair (w8.heap.size) (.int .i64 4) (.int .i64 45) 26 rfl)
  (with_reducible refine (lday7_is 2023 2 28 738579 _ (by decide +kernel)).mono ?_)
  rintro e w9 ⟨rfl, hb⟩
  replace H := H.below hb
  clear hb
  go_wp2_with fail
  (with_reducible refine (lday7_is 2023 3 31 738610 _ (by decide +kernel)).mono ?_)
  rintro e w10 ⟨rfl, hb⟩
  replace H := H.below hb
  clear hb
  go_wp2_with fail
  (with_reducible refine (K.isda 738579 738610 0 1 12 0 _ (H.lens (List.Mem.tail _ (List.Mem.tail _ (List.Mem.tail _ (List.Mem.tail _ (List.Mem.tail _ (List.Mem.tail _ (List.Mem.tail _ (List.Mem.tail _ (List.Mem.tail _ (List.Mem.tail _ (List.Mem.tail _ (List.Mem.tail _ (List.Mem.tail _ (List.Mem.tail _ (List.Mem.tail _ (List.Mem.tail _ (List.Mem.head _)))))))))))))))))) (part_in 2023 2 28 2023 3 31 (by unfold may; decide +kernel) (by decide +kernel) (by unfold may; decide +kernel) (by decide +kernel) (by decide +kernel) 30 (by decide +kernel) (by decide +kernel) (by decide +kernel))).mono ?_)
  rintro e w11 ⟨rfl, hb⟩
  replace H := H.below hb
  clear hb
  go_wp2_with fail
  replace H := (H.pair (w11.heap.size) (.int .i64 1) (.int .i64 12) 26 rfl)
  (with_reducible refine (K.e 738976 738916 0 0 4 _ (H.lens (List.Mem.tail _ (List.Mem.tail _ (List.Mem.tail _ (List.Mem.tail _ (List.Mem.tail _ (List.Mem.tail _ (List.Mem.tail _ (List.Mem.tail _ (List.Mem.tail _ (List.Mem.tail _ (List.Mem.tail _ (List.Mem.tail _ (List.Mem.tail _ (List.Mem.tail _ (List.Mem.tail _ (List.Mem.tail _ (List.Mem.tail _ (List.Mem.tail _ (List.Mem.tail _ (List.Mem.tail _ (List.Mem.head _)))))))))))))))))))))) (part_order (by decide +kernel) (by decide +kernel) (by decide +kernel))).mono ?_)
  rintro e w12 ⟨rfl, hb⟩
  replace H := H.below hb
  clear hb
  go_wp2_with fail
  replace H := (H.alloc (.cells #[.int .i64 0, .int .i64 0] 26))
  (with_reducible refine (K.us 0 738916 0 0 3 true _ (H.lens (List.Mem.tail _ (List.Mem.tail _ (List.Mem.tail _ (List.Mem.tail _ (List.Mem.tail _ (List.Mem.tail _ (List.Mem.tail _ (List.Mem.tail _ (List.Mem.tail _ (List.Mem.tail _ (List.Mem.tail _ (List.Mem.tail _ (List.Mem.tail _ (List.Mem.tail _ (List.Mem.tail _ (List.Mem.tail _ (List.Mem.tail _ (List.Mem.tail _ (List.Mem.tail _ (List.Mem.tail _ (List.Mem.head _)))))))))))))))))))))) (part_out (by decide +kernel))).mono ?_)
  rintro e w13 ⟨rfl, hb⟩
  replace H := H.below hb
  clear hb
  have ca0 := H.cell (w3.heap.size) 0 (.int .i64 1) (List.Mem.tail _ (List.Mem.tail _ (List.Mem.tail _ (List.Mem.tail _ (List.Mem.tail _ (List.Mem.tail _ (List.Mem.tail _ (List.Mem.tail _ (List.Mem.tail _ (List.Mem.tail _ (List.Mem.tail _ (List.Mem.tail _ (List.Mem.tail _ (List.Mem.tail _ (List.Mem.tail _ (List.Mem.tail _ (List.Mem.head _)))))))))))))))))
  have ca1 := H.cell (w3.heap.size) 1 (.int .i64 6) (List.Mem.tail _ (List.Mem.tail _ (List.Mem.tail _ (List.Mem.tail _ (List.Mem.tail _ (List.Mem.tail _ (List.Mem.tail _ (List.Mem.tail _ (List.Mem.tail _ (List.Mem.tail _ (List.Mem.tail _ (List.Mem.tail _ (List.Mem.tail _ (List.Mem.tail _ (List.Mem.tail _ (List.Mem.tail _ (List.Mem.tail _ (List.Mem.head _))))))))))))))))))
  have la := H.lt (w3.heap.size) 0 (.int .i64 1) (List.Mem.tail _ (List.Mem.tail _ (List.Mem.tail _ (List.Mem.tail _ (List.Mem.tail _ (List.Mem.tail _ (List.Mem.tail _ (List.Mem.tail _ (List.Mem.tail _ (List.Mem.tail _ (List.Mem.tail _ (List.Mem.tail _ (List.Mem.tail _ (List.Mem.tail _ (List.Mem.tail _ (List.Mem.tail _ (List.Mem.head _)))))))))))))))))
  have cb0 := H.cell (w4.heap.size) 0 (.int .i64 1) (List.Mem.tail _ (List.Mem.tail _ (List.Mem.tail _ (List.Mem.tail _ (List.Mem.tail _ (List.Mem.tail _ (List.Mem.tail _ (List.Mem.tail _ (List.Mem.tail _ (List.Mem.tail _ (List.Mem.tail _ (List.Mem.tail _ (List.Mem.head _)))))))))))))
  have cb1 := H.cell (w4.heap.size) 1 (.int .i64 6) (List.Mem.tail _ (List.Mem.tail _ (List.Mem.tail _ (List.Mem.tail _ (List.Mem.tail _ (List.Mem.tail _ (List.Mem.tail _ (List.Mem.tail _ (List.Mem.tail _ (List.Mem.tail _ (List.Mem.tail _ (List.Mem.tail _ (List.Mem.tail _ (List.Mem.head _))))))))))))))
  have lb := H.lt (w4.heap.size) 0 (.int .i64 1) (List.Mem.tail _ (List.Mem.tail _ (List.Mem.tail _ (List.Mem.tail _ (List.Mem.tail _ (List.Mem.tail _ (List.Mem.tail _ (List.Mem.tail _ (List.Mem.tail _ (List.Mem.tail _ (List.Mem.tail _ (List.Mem.tail _ (List.Mem.head _)))))))))))))
  have cc0 := H.cell (w5.heap.size) 0 (.int .i64 1) (List.Mem.tail _ (List.Mem.tail _ (List.Mem.tail _ (List.Mem.tail _ (List.Mem.tail _ (List.Mem.tail _ (List.Mem.tail _ (List.Mem.tail _ (List.Mem.head _)))))))))
  have cc1 := H.cell (w5.heap.size) 1 (.int .i64 6) (List.Mem.tail _ (List.Mem.tail _ (List.Mem.tail _ (List.Mem.tail _ (List.Mem.tail _ (List.Mem.tail _ (List.Mem.tail _ (List.Mem.tail _ (List.Mem.tail _ (List.Mem.head _))))))))))
  have lc := H.lt (w5.heap.size) 0 (.int .i64 1) (List.Mem.tail _ (List.Mem.tail _ (List.Mem.tail _ (List.Mem.tail _ (List.Mem.tail _ (List.Mem.tail _ (List.Mem.tail _ (List.Mem.tail _ (List.Mem.head _)))))))))
  have cd0 := H.cell (w8.heap.size) 0 (.int .i64 4) (List.Mem.tail _ (List.Mem.tail _ (List.Mem.tail _ (List.Mem.tail _ (List.Mem.head _)))))
  have cd1 := H.cell (w8.heap.size) 1 (.int .i64 45) (List.Mem.tail _ (List.Mem.tail _ (List.Mem.tail _ (List.Mem.tail _ (List.Mem.tail _ (List.Mem.head _))))))
  have ld := H.lt (w8.heap.size) 0 (.int .i64 4) (List.Mem.tail _ (List.Mem.tail _ (List.Mem.tail _ (List.Mem.tail _ (List.Mem.head _)))))
  have ci0 := H.cell (w11.heap.size) 0 (.int .i64 1) (List.Mem.head _)
  have ci1 := H.cell (w11.heap.size) 1 (.int .i64 12) (List.Mem.tail _ (List.Mem.head _))
  have li := H.lt (w11.heap.size) 0 (.int .i64 1) (List.Mem.head _)
  go_wp2_with fail
  clear ca0 ca1 la cb0 cb1 lb cc0 cc1 lc cd0 cd1 ld ci0 ci1 li
  replace H := (H.alloc (.cells #[.int .i64 0, .int .i64 0] 26))
  go_ret
  exact ⟨rfl, H.old⟩
end Go.Proofs.YtkmjaoiehmddcaaDoor
