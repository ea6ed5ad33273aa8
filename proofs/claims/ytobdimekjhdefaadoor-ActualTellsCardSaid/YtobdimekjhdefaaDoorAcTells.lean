/- ActualTells: the walk. -/
import Derived.Test.YtobdimekjhdefaaDoorAcShown
namespace Go.Proofs.YtobdimekjhdefaaDoor
open Go.RowKit
set_option linter.unusedVariables false
set_option linter.unusedSimpArgs false

set_option maxHeartbeats 4000000 in
set_option maxRecDepth 100000 in
theorem atells_walk (K : Ways) (a b : Int) (w : World) (hL : Facts w) (ha : -9223372036854775808 ≤ a ∧ a < 9223372036854775808) (hb : -9223372036854775808 ≤ b ∧ b < 9223372036854775808) :
    Calls Tryd.prog 3 #[.int .i64 a, .int .i64 b] w fun e w' => e = .returned (.bool true) ∧ Below w.heap.size w w' := by
  have H := (Held.start w).add (f := factsF) hL
  clear hL
  clear ha hb
  obtain ⟨p0, q0, c0, h⟩ := ac_is aX 360 a b
  have W0 := Lib.hid h
  clear h
  obtain ⟨p1, q1, c1, h⟩ := ac_is aX 365 a b
  have W1 := Lib.hid h
  clear h
  obtain ⟨p2, q2, c2, h⟩ := ac_is yX 133590 a b
  have W2 := Lib.hid h
  clear h
  go_enter Tryd.func3, Tryd.ntmps3
  go_wp2_with fail
  (with_reducible refine (ashown_any K _ (H.facts (List.Mem.head _))).mono ?_)
  rintro e w1 ⟨rfl, hb⟩
  replace H := H.below hb
  clear hb
  go_wp2_with fail
  (with_reducible refine (K.by360 a b p0 q0 c0 _ (H.facts (List.Mem.head _)) W0.out).mono ?_)
  rintro e w2 ⟨rfl, hb⟩
  replace H := H.below hb
  clear hb
  go_wp2_with fail
  replace H := (H.pair (w2.heap.size) (.int .i64 p0) (.int .i64 q0) 24 rfl)
  (with_reducible refine (rby360_any a b p0 q0 c0 _ W0.out).mono ?_)
  rintro e w3 ⟨rfl, hb⟩
  replace H := H.below hb
  clear hb
  have cx10 := H.cell (w2.heap.size) 0 (.int .i64 p0) (List.Mem.head _)
  have cx11 := H.cell (w2.heap.size) 1 (.int .i64 q0) (List.Mem.tail _ (List.Mem.head _))
  have lx1 := H.lt (w2.heap.size) 0 (.int .i64 p0) (List.Mem.head _)
  go_wp2_with fail
  clear cx10 cx11 lx1
  replace H := (H.pair (w3.heap.size) (.int .i64 p0) (.int .i64 q0) 24 rfl)
  (with_reducible refine (K.by365 a b p1 q1 c1 _ (H.facts (List.Mem.tail _ (List.Mem.tail _ (List.Mem.tail _ (List.Mem.tail _ (List.Mem.tail _ (List.Mem.tail _ (List.Mem.tail _ (List.Mem.tail _ (List.Mem.head _)))))))))) W1.out).mono ?_)
  rintro e w4 ⟨rfl, hb⟩
  replace H := H.below hb
  clear hb
  have cx10 := H.cell (w2.heap.size) 0 (.int .i64 p0) (List.Mem.tail _ (List.Mem.tail _ (List.Mem.tail _ (List.Mem.tail _ (List.Mem.head _)))))
  have cx11 := H.cell (w2.heap.size) 1 (.int .i64 q0) (List.Mem.tail _ (List.Mem.tail _ (List.Mem.tail _ (List.Mem.tail _ (List.Mem.tail _ (List.Mem.head _))))))
  have lx1 := H.lt (w2.heap.size) 0 (.int .i64 p0) (List.Mem.tail _ (List.Mem.tail _ (List.Mem.tail _ (List.Mem.tail _ (List.Mem.head _)))))
  have cx20 := H.cell (w3.heap.size) 0 (.int .i64 p0) (List.Mem.head _)
  have cx21 := H.cell (w3.heap.size) 1 (.int .i64 q0) (List.Mem.tail _ (List.Mem.head _))
  have lx2 := H.lt (w3.heap.size) 0 (.int .i64 p0) (List.Mem.head _)
  go_wp2_with fail
  clear cx10 cx11 lx1 cx20 cx21 lx2
  replace H := (H.pair (w4.heap.size) (.int .i64 p1) (.int .i64 q1) 24 rfl)
  (with_reducible refine (rby365_any a b p1 q1 c1 _ W1.out).mono ?_)
  rintro e w5 ⟨rfl, hb⟩
  replace H := H.below hb
  clear hb
  have cx10 := H.cell (w2.heap.size) 0 (.int .i64 p0) (List.Mem.tail _ (List.Mem.tail _ (List.Mem.tail _ (List.Mem.tail _ (List.Mem.tail _ (List.Mem.tail _ (List.Mem.tail _ (List.Mem.tail _ (List.Mem.head _)))))))))
  have cx11 := H.cell (w2.heap.size) 1 (.int .i64 q0) (List.Mem.tail _ (List.Mem.tail _ (List.Mem.tail _ (List.Mem.tail _ (List.Mem.tail _ (List.Mem.tail _ (List.Mem.tail _ (List.Mem.tail _ (List.Mem.tail _ (List.Mem.head _))))))))))
  have lx1 := H.lt (w2.heap.size) 0 (.int .i64 p0) (List.Mem.tail _ (List.Mem.tail _ (List.Mem.tail _ (List.Mem.tail _ (List.Mem.tail _ (List.Mem.tail _ (List.Mem.tail _ (List.Mem.tail _ (List.Mem.head _)))))))))
  have cx20 := H.cell (w3.heap.size) 0 (.int .i64 p0) (List.Mem.tail _ (List.Mem.tail _ (List.Mem.tail _ (List.Mem.tail _ (List.Mem.head _)))))
  have cx21 := H.cell (w3.heap.size) 1 (.int .i64 q0) (List.Mem.tail _ (List.Mem.tail _ (List.Mem.tail _ (List.Mem.tail _ (List.Mem.tail _ (List.Mem.head _))))))
  have lx2 := H.lt (w3.heap.size) 0 (.int .i64 p0) (List.Mem.tail _ (List.Mem.tail _ (List.Mem.tail _ (List.Mem.tail _ (List.Mem.head _)))))
  have cy10 := H.cell (w4.heap.size) 0 (.int .i64 p1) (List.Mem.head _)
  have cy11 := H.cell (w4.heap.size) 1 (.int .i64 q1) (List.Mem.tail _ (List.Mem.head _))
  have ly1 := H.lt (w4.heap.size) 0 (.int .i64 p1) (List.Mem.head _)
  go_wp2_with fail
  clear cx10 cx11 lx1 cx20 cx21 lx2 cy10 cy11 ly1
  replace H := (H.pair (w5.heap.size) (.int .i64 p1) (.int .i64 q1) 24 rfl)
  (with_reducible refine (K.byyears a b p2 q2 c2 _ (H.facts (List.Mem.tail _ (List.Mem.tail _ (List.Mem.tail _ (List.Mem.tail _ (List.Mem.tail _ (List.Mem.tail _ (List.Mem.tail _ (List.Mem.tail _ (List.Mem.tail _ (List.Mem.tail _ (List.Mem.tail _ (List.Mem.tail _ (List.Mem.tail _ (List.Mem.tail _ (List.Mem.tail _ (List.Mem.tail _ (List.Mem.head _)))))))))))))))))) W2.out).mono ?_)
  rintro e w6 ⟨rfl, hb⟩
  replace H := H.below hb
  clear hb
  have cx10 := H.cell (w2.heap.size) 0 (.int .i64 p0) (List.Mem.tail _ (List.Mem.tail _ (List.Mem.tail _ (List.Mem.tail _ (List.Mem.tail _ (List.Mem.tail _ (List.Mem.tail _ (List.Mem.tail _ (List.Mem.tail _ (List.Mem.tail _ (List.Mem.tail _ (List.Mem.tail _ (List.Mem.head _)))))))))))))
  have cx11 := H.cell (w2.heap.size) 1 (.int .i64 q0) (List.Mem.tail _ (List.Mem.tail _ (List.Mem.tail _ (List.Mem.tail _ (List.Mem.tail _ (List.Mem.tail _ (List.Mem.tail _ (List.Mem.tail _ (List.Mem.tail _ (List.Mem.tail _ (List.Mem.tail _ (List.Mem.tail _ (List.Mem.tail _ (List.Mem.head _))))))))))))))
  have lx1 := H.lt (w2.heap.size) 0 (.int .i64 p0) (List.Mem.tail _ (List.Mem.tail _ (List.Mem.tail _ (List.Mem.tail _ (List.Mem.tail _ (List.Mem.tail _ (List.Mem.tail _ (List.Mem.tail _ (List.Mem.tail _ (List.Mem.tail _ (List.Mem.tail _ (List.Mem.tail _ (List.Mem.head _)))))))))))))
  have cx20 := H.cell (w3.heap.size) 0 (.int .i64 p0) (List.Mem.tail _ (List.Mem.tail _ (List.Mem.tail _ (List.Mem.tail _ (List.Mem.tail _ (List.Mem.tail _ (List.Mem.tail _ (List.Mem.tail _ (List.Mem.head _)))))))))
  have cx21 := H.cell (w3.heap.size) 1 (.int .i64 q0) (List.Mem.tail _ (List.Mem.tail _ (List.Mem.tail _ (List.Mem.tail _ (List.Mem.tail _ (List.Mem.tail _ (List.Mem.tail _ (List.Mem.tail _ (List.Mem.tail _ (List.Mem.head _))))))))))
  have lx2 := H.lt (w3.heap.size) 0 (.int .i64 p0) (List.Mem.tail _ (List.Mem.tail _ (List.Mem.tail _ (List.Mem.tail _ (List.Mem.tail _ (List.Mem.tail _ (List.Mem.tail _ (List.Mem.tail _ (List.Mem.head _)))))))))
  have cy10 := H.cell (w4.heap.size) 0 (.int .i64 p1) (List.Mem.tail _ (List.Mem.tail _ (List.Mem.tail _ (List.Mem.tail _ (List.Mem.head _)))))
  have cy11 := H.cell (w4.heap.size) 1 (.int .i64 q1) (List.Mem.tail _ (List.Mem.tail _ (List.Mem.tail _ (List.Mem.tail _ (List.Mem.tail _ (List.Mem.head _))))))
  have ly1 := H.lt (w4.heap.size) 0 (.int .i64 p1) (List.Mem.tail _ (List.Mem.tail _ (List.Mem.tail _ (List.Mem.tail _ (List.Mem.head _)))))
  have cy20 := H.cell (w5.heap.size) 0 (.int .i64 p1) (List.Mem.head _)
  have cy21 := H.cell (w5.heap.size) 1 (.int .i64 q1) (List.Mem.tail _ (List.Mem.head _))
  have ly2 := H.lt (w5.heap.size) 0 (.int .i64 p1) (List.Mem.head _)
  go_wp2_with fail
  clear cx10 cx11 lx1 cx20 cx21 lx2 cy10 cy11 ly1 cy20 cy21 ly2
  replace H := (H.pair (w6.heap.size) (.int .i64 p2) (.int .i64 q2) 24 rfl)
  (with_reducible refine (rbyyears_any a b p2 q2 c2 _ W2.out).mono ?_)
  rintro e w7 ⟨rfl, hb⟩
  replace H := H.below hb
  clear hb
  have cx10 := H.cell (w2.heap.size) 0 (.int .i64 p0) (List.Mem.tail _ (List.Mem.tail _ (List.Mem.tail _ (List.Mem.tail _ (List.Mem.tail _ (List.Mem.tail _ (List.Mem.tail _ (List.Mem.tail _ (List.Mem.tail _ (List.Mem.tail _ (List.Mem.tail _ (List.Mem.tail _ (List.Mem.tail _ (List.Mem.tail _ (List.Mem.tail _ (List.Mem.tail _ (List.Mem.head _)))))))))))))))))
  have cx11 := H.cell (w2.heap.size) 1 (.int .i64 q0) (List.Mem.tail _ (List.Mem.tail _ (List.Mem.tail _ (List.Mem.tail _ (List.Mem.tail _ (List.Mem.tail _ (List.Mem.tail _ (List.Mem.tail _ (List.Mem.tail _ (List.Mem.tail _ (List.Mem.tail _ (List.Mem.tail _ (List.Mem.tail _ (List.Mem.tail _ (List.Mem.tail _ (List.Mem.tail _ (List.Mem.tail _ (List.Mem.head _))))))))))))))))))
  have lx1 := H.lt (w2.heap.size) 0 (.int .i64 p0) (List.Mem.tail _ (List.Mem.tail _ (List.Mem.tail _ (List.Mem.tail _ (List.Mem.tail _ (List.Mem.tail _ (List.Mem.tail _ (List.Mem.tail _ (List.Mem.tail _ (List.Mem.tail _ (List.Mem.tail _ (List.Mem.tail _ (List.Mem.tail _ (List.Mem.tail _ (List.Mem.tail _ (List.Mem.tail _ (List.Mem.head _)))))))))))))))))
  have cx20 := H.cell (w3.heap.size) 0 (.int .i64 p0) (List.Mem.tail _ (List.Mem.tail _ (List.Mem.tail _ (List.Mem.tail _ (List.Mem.tail _ (List.Mem.tail _ (List.Mem.tail _ (List.Mem.tail _ (List.Mem.tail _ (List.Mem.tail _ (List.Mem.tail _ (List.Mem.tail _ (List.Mem.head _)))))))))))))
  have cx21 := H.cell (w3.heap.size) 1 (.int .i64 q0) (List.Mem.tail _ (List.Mem.tail _ (List.Mem.tail _ (List.Mem.tail _ (List.Mem.tail _ (List.Mem.tail _ (List.Mem.tail _ (List.Mem.tail _ (List.Mem.tail _ (List.Mem.tail _ (List.Mem.tail _ (List.Mem.tail _ (List.Mem.tail _ (List.Mem.head _))))))))))))))
  have lx2 := H.lt (w3.heap.size) 0 (.int .i64 p0) (List.Mem.tail _ (List.Mem.tail _ (List.Mem.tail _ (List.Mem.tail _ (List.Mem.tail _ (List.Mem.tail _ (List.Mem.tail _ (List.Mem.tail _ (List.Mem.tail _ (List.Mem.tail _ (List.Mem.tail _ (List.Mem.tail _ (List.Mem.head _)))))))))))))
  have cy10 := H.cell (w4.heap.size) 0 (.int .i64 p1) (List.Mem.tail _ (List.Mem.tail _ (List.Mem.tail _ (List.Mem.tail _ (List.Mem.tail _ (List.Mem.tail _ (List.Mem.tail _ (List.Mem.tail _ (List.Mem.head _)))))))))
  have cy11 := H.cell (w4.heap.size) 1 (.int .i64 q1) (List.Mem.tail _ (List.Mem.tail _ (List.Mem.tail _ (List.Mem.tail _ (List.Mem.tail _ (List.Mem.tail _ (List.Mem.tail _ (List.Mem.tail _ (List.Mem.tail _ (List.Mem.head _))))))))))
  have ly1 := H.lt (w4.heap.size) 0 (.int .i64 p1) (List.Mem.tail _ (List.Mem.tail _ (List.Mem.tail _ (List.Mem.tail _ (List.Mem.tail _ (List.Mem.tail _ (List.Mem.tail _ (List.Mem.tail _ (List.Mem.head _)))))))))
  have cy20 := H.cell (w5.heap.size) 0 (.int .i64 p1) (List.Mem.tail _ (List.Mem.tail _ (List.Mem.tail _ (List.Mem.tail _ (List.Mem.head _)))))
  have cy21 := H.cell (w5.heap.size) 1 (.int .i64 q1) (List.Mem.tail _ (List.Mem.tail _ (List.Mem.tail _ (List.Mem.tail _ (List.Mem.tail _ (List.Mem.head _))))))
  have ly2 := H.lt (w5.heap.size) 0 (.int .i64 p1) (List.Mem.tail _ (List.Mem.tail _ (List.Mem.tail _ (List.Mem.tail _ (List.Mem.head _)))))
  have cz10 := H.cell (w6.heap.size) 0 (.int .i64 p2) (List.Mem.head _)
  have cz11 := H.cell (w6.heap.size) 1 (.int .i64 q2) (List.Mem.tail _ (List.Mem.head _))
  have lz1 := H.lt (w6.heap.size) 0 (.int .i64 p2) (List.Mem.head _)
  go_wp2_with fail
  clear cx10 cx11 lx1 cx20 cx21 lx2 cy10 cy11 ly1 cy20 cy21 ly2 cz10 cz11 lz1
  replace H := (H.pair (w7.heap.size) (.int .i64 p2) (.int .i64 q2) 24 rfl)
  go_ret
  exact ⟨rfl, H.old⟩
end Go.Proofs.YtobdimekjhdefaaDoor
