/- ThirtyTells: the walk. -/
import Derived.Test.YtkmjaoiehmddcaaDoorTyShown
namespace Go.Proofs.YtkmjaoiehmddcaaDoor
open Go.RowKit
set_option linter.unusedVariables false
set_option linter.unusedSimpArgs false

set_option maxHeartbeats 4000000 in
set_option maxRecDepth 100000 in
theorem ttells_walk (K : Ways) (a b k : Int) (t : Bool) (w : World) (hL : Lens w) (ha : -9223372036854775808 ≤ a ∧ a < 9223372036854775808) (hb : -9223372036854775808 ≤ b ∧ b < 9223372036854775808) (hk : -9223372036854775808 ≤ k ∧ k < 9223372036854775808) :
    Calls Tryd.prog 3 #[.agg #[.int .i64 a, .int .i64 b, .int .i64 k, .bool t]] w fun e w' => e = .returned (.bool true) ∧ Below w.heap.size w w' := by
  have H := (Held.start w).add (f := lensF) hL
  clear hL
  clear ha hb hk
  obtain ⟨p1, q1, c1, h⟩ := part_is (uX t) a b
  have U := Lib.hid h
  clear h
  obtain ⟨p2, q2, c2, h⟩ := part_is eX a b
  have E := Lib.hid h
  clear h
  obtain ⟨p3, q3, c3, h⟩ := part_is (iX (decide (b = k))) a b
  have J := Lib.hid h
  clear h
  go_enter Tryd.func3, Tryd.ntmps3
  go_wp2_with fail
  replace H := (H.alloc (.cells #[.int .i64 a, .int .i64 b, .int .i64 k, .bool t] 23))
  (with_reducible refine (tshown_any K _ (H.lens (List.Mem.head _))).mono ?_)
  rintro e w1 ⟨rfl, hb⟩
  replace H := H.below hb
  clear hb
  go_wp2_with fail
  (with_reducible refine (K.us a b p1 q1 c1 t _ (H.lens (List.Mem.head _)) U.out).mono ?_)
  rintro e w2 ⟨rfl, hb⟩
  replace H := H.below hb
  clear hb
  go_wp2_with fail
  replace H := (H.pair (w2.heap.size) (.int .i64 p1) (.int .i64 q1) 26 rfl)
  (with_reducible refine (rus_any a b p1 q1 c1 t _ U.out).mono ?_)
  rintro e w3 ⟨rfl, hb⟩
  replace H := H.below hb
  clear hb
  have cx10 := H.cell (w2.heap.size) 0 (.int .i64 p1) (List.Mem.head _)
  have cx11 := H.cell (w2.heap.size) 1 (.int .i64 q1) (List.Mem.tail _ (List.Mem.head _))
  have lx1 := H.lt (w2.heap.size) 0 (.int .i64 p1) (List.Mem.head _)
  go_wp2_with fail
  clear cx10 cx11 lx1
  replace H := (H.pair (w3.heap.size) (.int .i64 p1) (.int .i64 q1) 26 rfl)
  (with_reducible refine (K.e a b p2 q2 c2 _ (H.lens (List.Mem.tail _ (List.Mem.tail _ (List.Mem.tail _ (List.Mem.tail _ (List.Mem.tail _ (List.Mem.tail _ (List.Mem.tail _ (List.Mem.tail _ (List.Mem.head _)))))))))) E.out).mono ?_)
  rintro e w4 ⟨rfl, hb⟩
  replace H := H.below hb
  clear hb
  have cx10 := H.cell (w2.heap.size) 0 (.int .i64 p1) (List.Mem.tail _ (List.Mem.tail _ (List.Mem.tail _ (List.Mem.tail _ (List.Mem.head _)))))
  have cx11 := H.cell (w2.heap.size) 1 (.int .i64 q1) (List.Mem.tail _ (List.Mem.tail _ (List.Mem.tail _ (List.Mem.tail _ (List.Mem.tail _ (List.Mem.head _))))))
  have lx1 := H.lt (w2.heap.size) 0 (.int .i64 p1) (List.Mem.tail _ (List.Mem.tail _ (List.Mem.tail _ (List.Mem.tail _ (List.Mem.head _)))))
  have cx20 := H.cell (w3.heap.size) 0 (.int .i64 p1) (List.Mem.head _)
  have cx21 := H.cell (w3.heap.size) 1 (.int .i64 q1) (List.Mem.tail _ (List.Mem.head _))
  have lx2 := H.lt (w3.heap.size) 0 (.int .i64 p1) (List.Mem.head _)
  go_wp2_with fail
  clear cx10 cx11 lx1 cx20 cx21 lx2
  replace H := (H.pair (w4.heap.size) (.int .i64 p2) (.int .i64 q2) 26 rfl)
  (with_reducible refine (re_any a b p2 q2 c2 _ E.out).mono ?_)
  rintro e w5 ⟨rfl, hb⟩
  replace H := H.below hb
  clear hb
  have cx10 := H.cell (w2.heap.size) 0 (.int .i64 p1) (List.Mem.tail _ (List.Mem.tail _ (List.Mem.tail _ (List.Mem.tail _ (List.Mem.tail _ (List.Mem.tail _ (List.Mem.tail _ (List.Mem.tail _ (List.Mem.head _)))))))))
  have cx11 := H.cell (w2.heap.size) 1 (.int .i64 q1) (List.Mem.tail _ (List.Mem.tail _ (List.Mem.tail _ (List.Mem.tail _ (List.Mem.tail _ (List.Mem.tail _ (List.Mem.tail _ (List.Mem.tail _ (List.Mem.tail _ (List.Mem.head _))))))))))
  have lx1 := H.lt (w2.heap.size) 0 (.int .i64 p1) (List.Mem.tail _ (List.Mem.tail _ (List.Mem.tail _ (List.Mem.tail _ (List.Mem.tail _ (List.Mem.tail _ (List.Mem.tail _ (List.Mem.tail _ (List.Mem.head _)))))))))
  have cx20 := H.cell (w3.heap.size) 0 (.int .i64 p1) (List.Mem.tail _ (List.Mem.tail _ (List.Mem.tail _ (List.Mem.tail _ (List.Mem.head _)))))
  have cx21 := H.cell (w3.heap.size) 1 (.int .i64 q1) (List.Mem.tail _ (List.Mem.tail _ (List.Mem.tail _ (List.Mem.tail _ (List.Mem.tail _ (List.Mem.head _))))))
  have lx2 := H.lt (w3.heap.size) 0 (.int .i64 p1) (List.Mem.tail _ (List.Mem.tail _ (List.Mem.tail _ (List.Mem.tail _ (List.Mem.head _)))))
  have cy10 := H.cell (w4.heap.size) 0 (.int .i64 p2) (List.Mem.head _)
  have cy11 := H.cell (w4.heap.size) 1 (.int .i64 q2) (List.Mem.tail _ (List.Mem.head _))
  have ly1 := H.lt (w4.heap.size) 0 (.int .i64 p2) (List.Mem.head _)
  go_wp2_with fail
  clear cx10 cx11 lx1 cx20 cx21 lx2 cy10 cy11 ly1
  replace H := (H.pair (w5.heap.size) (.int .i64 p2) (.int .i64 q2) 26 rfl)
  (with_reducible refine (K.isda a b k p3 q3 c3 _ (H.lens (List.Mem.tail _ (List.Mem.tail _ (List.Mem.tail _ (List.Mem.tail _ (List.Mem.tail _ (List.Mem.tail _ (List.Mem.tail _ (List.Mem.tail _ (List.Mem.tail _ (List.Mem.tail _ (List.Mem.tail _ (List.Mem.tail _ (List.Mem.tail _ (List.Mem.tail _ (List.Mem.tail _ (List.Mem.tail _ (List.Mem.head _)))))))))))))))))) J.out).mono ?_)
  rintro e w6 ⟨rfl, hb⟩
  replace H := H.below hb
  clear hb
  have cx10 := H.cell (w2.heap.size) 0 (.int .i64 p1) (List.Mem.tail _ (List.Mem.tail _ (List.Mem.tail _ (List.Mem.tail _ (List.Mem.tail _ (List.Mem.tail _ (List.Mem.tail _ (List.Mem.tail _ (List.Mem.tail _ (List.Mem.tail _ (List.Mem.tail _ (List.Mem.tail _ (List.Mem.head _)))))))))))))
  have cx11 := H.cell (w2.heap.size) 1 (.int .i64 q1) (List.Mem.tail _ (List.Mem.tail _ (List.Mem.tail _ (List.Mem.tail _ (List.Mem.tail _ (List.Mem.tail _ (List.Mem.tail _ (List.Mem.tail _ (List.Mem.tail _ (List.Mem.tail _ (List.Mem.tail _ (List.Mem.tail _ (List.Mem.tail _ (List.Mem.head _))))))))))))))
  have lx1 := H.lt (w2.heap.size) 0 (.int .i64 p1) (List.Mem.tail _ (List.Mem.tail _ (List.Mem.tail _ (List.Mem.tail _ (List.Mem.tail _ (List.Mem.tail _ (List.Mem.tail _ (List.Mem.tail _ (List.Mem.tail _ (List.Mem.tail _ (List.Mem.tail _ (List.Mem.tail _ (List.Mem.head _)))))))))))))
  have cx20 := H.cell (w3.heap.size) 0 (.int .i64 p1) (List.Mem.tail _ (List.Mem.tail _ (List.Mem.tail _ (List.Mem.tail _ (List.Mem.tail _ (List.Mem.tail _ (List.Mem.tail _ (List.Mem.tail _ (List.Mem.head _)))))))))
  have cx21 := H.cell (w3.heap.size) 1 (.int .i64 q1) (List.Mem.tail _ (List.Mem.tail _ (List.Mem.tail _ (List.Mem.tail _ (List.Mem.tail _ (List.Mem.tail _ (List.Mem.tail _ (List.Mem.tail _ (List.Mem.tail _ (List.Mem.head _))))))))))
  have lx2 := H.lt (w3.heap.size) 0 (.int .i64 p1) (List.Mem.tail _ (List.Mem.tail _ (List.Mem.tail _ (List.Mem.tail _ (List.Mem.tail _ (List.Mem.tail _ (List.Mem.tail _ (List.Mem.tail _ (List.Mem.head _)))))))))
  have cy10 := H.cell (w4.heap.size) 0 (.int .i64 p2) (List.Mem.tail _ (List.Mem.tail _ (List.Mem.tail _ (List.Mem.tail _ (List.Mem.head _)))))
  have cy11 := H.cell (w4.heap.size) 1 (.int .i64 q2) (List.Mem.tail _ (List.Mem.tail _ (List.Mem.tail _ (List.Mem.tail _ (List.Mem.tail _ (List.Mem.head _))))))
  have ly1 := H.lt (w4.heap.size) 0 (.int .i64 p2) (List.Mem.tail _ (List.Mem.tail _ (List.Mem.tail _ (List.Mem.tail _ (List.Mem.head _)))))
  have cy20 := H.cell (w5.heap.size) 0 (.int .i64 p2) (List.Mem.head _)
  have cy21 := H.cell (w5.heap.size) 1 (.int .i64 q2) (List.Mem.tail _ (List.Mem.head _))
  have ly2 := H.lt (w5.heap.size) 0 (.int .i64 p2) (List.Mem.head _)
  go_wp2_with fail
  clear cx10 cx11 lx1 cx20 cx21 lx2 cy10 cy11 ly1 cy20 cy21 ly2
  replace H := (H.pair (w6.heap.size) (.int .i64 p3) (.int .i64 q3) 26 rfl)
  (with_reducible refine (risda_any a b k p3 q3 c3 _ J.out).mono ?_)
  rintro e w7 ⟨rfl, hb⟩
  replace H := H.below hb
  clear hb
  have cx10 := H.cell (w2.heap.size) 0 (.int .i64 p1) (List.Mem.tail _ (List.Mem.tail _ (List.Mem.tail _ (List.Mem.tail _ (List.Mem.tail _ (List.Mem.tail _ (List.Mem.tail _ (List.Mem.tail _ (List.Mem.tail _ (List.Mem.tail _ (List.Mem.tail _ (List.Mem.tail _ (List.Mem.tail _ (List.Mem.tail _ (List.Mem.tail _ (List.Mem.tail _ (List.Mem.head _)))))))))))))))))
  have cx11 := H.cell (w2.heap.size) 1 (.int .i64 q1) (List.Mem.tail _ (List.Mem.tail _ (List.Mem.tail _ (List.Mem.tail _ (List.Mem.tail _ (List.Mem.tail _ (List.Mem.tail _ (List.Mem.tail _ (List.Mem.tail _ (List.Mem.tail _ (List.Mem.tail _ (List.Mem.tail _ (List.Mem.tail _ (List.Mem.tail _ (List.Mem.tail _ (List.Mem.tail _ (List.Mem.tail _ (List.Mem.head _))))))))))))))))))
  have lx1 := H.lt (w2.heap.size) 0 (.int .i64 p1) (List.Mem.tail _ (List.Mem.tail _ (List.Mem.tail _ (List.Mem.tail _ (List.Mem.tail _ (List.Mem.tail _ (List.Mem.tail _ (List.Mem.tail _ (List.Mem.tail _ (List.Mem.tail _ (List.Mem.tail _ (List.Mem.tail _ (List.Mem.tail _ (List.Mem.tail _ (List.Mem.tail _ (List.Mem.tail _ (List.Mem.head _)))))))))))))))))
  have cx20 := H.cell (w3.heap.size) 0 (.int .i64 p1) (List.Mem.tail _ (List.Mem.tail _ (List.Mem.tail _ (List.Mem.tail _ (List.Mem.tail _ (List.Mem.tail _ (List.Mem.tail _ (List.Mem.tail _ (List.Mem.tail _ (List.Mem.tail _ (List.Mem.tail _ (List.Mem.tail _ (List.Mem.head _)))))))))))))
  have cx21 := H.cell (w3.heap.size) 1 (.int .i64 q1) (List.Mem.tail _ (List.Mem.tail _ (List.Mem.tail _ (List.Mem.tail _ (List.Mem.tail _ (List.Mem.tail _ (List.Mem.tail _ (List.Mem.tail _ (List.Mem.tail _ (List.Mem.tail _ (List.Mem.tail _ (List.Mem.tail _ (List.Mem.tail _ (List.Mem.head _))))))))))))))
  have lx2 := H.lt (w3.heap.size) 0 (.int .i64 p1) (List.Mem.tail _ (List.Mem.tail _ (List.Mem.tail _ (List.Mem.tail _ (List.Mem.tail _ (List.Mem.tail _ (List.Mem.tail _ (List.Mem.tail _ (List.Mem.tail _ (List.Mem.tail _ (List.Mem.tail _ (List.Mem.tail _ (List.Mem.head _)))))))))))))
  have cy10 := H.cell (w4.heap.size) 0 (.int .i64 p2) (List.Mem.tail _ (List.Mem.tail _ (List.Mem.tail _ (List.Mem.tail _ (List.Mem.tail _ (List.Mem.tail _ (List.Mem.tail _ (List.Mem.tail _ (List.Mem.head _)))))))))
  have cy11 := H.cell (w4.heap.size) 1 (.int .i64 q2) (List.Mem.tail _ (List.Mem.tail _ (List.Mem.tail _ (List.Mem.tail _ (List.Mem.tail _ (List.Mem.tail _ (List.Mem.tail _ (List.Mem.tail _ (List.Mem.tail _ (List.Mem.head _))))))))))
  have ly1 := H.lt (w4.heap.size) 0 (.int .i64 p2) (List.Mem.tail _ (List.Mem.tail _ (List.Mem.tail _ (List.Mem.tail _ (List.Mem.tail _ (List.Mem.tail _ (List.Mem.tail _ (List.Mem.tail _ (List.Mem.head _)))))))))
  have cy20 := H.cell (w5.heap.size) 0 (.int .i64 p2) (List.Mem.tail _ (List.Mem.tail _ (List.Mem.tail _ (List.Mem.tail _ (List.Mem.head _)))))
  have cy21 := H.cell (w5.heap.size) 1 (.int .i64 q2) (List.Mem.tail _ (List.Mem.tail _ (List.Mem.tail _ (List.Mem.tail _ (List.Mem.tail _ (List.Mem.head _))))))
  have ly2 := H.lt (w5.heap.size) 0 (.int .i64 p2) (List.Mem.tail _ (List.Mem.tail _ (List.Mem.tail _ (List.Mem.tail _ (List.Mem.head _)))))
  have cz10 := H.cell (w6.heap.size) 0 (.int .i64 p3) (List.Mem.head _)
  have cz11 := H.cell (w6.heap.size) 1 (.int .i64 q3) (List.Mem.tail _ (List.Mem.head _))
  have lz1 := H.lt (w6.heap.size) 0 (.int .i64 p3) (List.Mem.head _)
  go_wp2_with fail
  clear cx10 cx11 lx1 cx20 cx21 lx2 cy10 cy11 ly1 cy20 cy21 ly2 cz10 cz11 lz1
  replace H := (H.pair (w7.heap.size) (.int .i64 p3) (.int .i64 q3) 26 rfl)
  go_ret
  exact ⟨rfl, H.old⟩
end Go.Proofs.YtkmjaoiehmddcaaDoor
