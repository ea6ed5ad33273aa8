/- IcmaTells: the walk. -/
import Derived.Test.YtcplfgmajbadmaaDoorIcShown
namespace Go.Proofs.YtcplfgmajbadmaaDoor
open Go.RowKit
set_option linter.unusedVariables false
set_option linter.unusedSimpArgs false

set_option maxHeartbeats 4000000 in
set_option maxRecDepth 100000 in
theorem itells_walk (a b : Int) (ao : Option Addr) (n cap : Nat) (X : Nat → Int) (f : Int) (w : World) (hL : Facts w) (hR : RowAt w ao X n cap) :
    Calls Tryd.prog 3 #[.agg #[.int .i64 a, .int .i64 b, .slice ao n cap, .int .i64 f]] w fun e w' => e = .returned (.bool true) ∧ Below w.heap.size w w' := by
  have H := ((Held.start w).add (f := factsF) hL).add (f := rowF ao X n cap) hR
  clear hL hR
  obtain ⟨p, q, c, hI⟩ := ic_is X n f a b
  obtain ⟨m, hm⟩ : ∃ m : Bool, m = true ↔ MayX X n f := by
    by_cases h : MayX X n f
    · exact ⟨true, fun _ => h, fun _ => rfl⟩
    · exact ⟨false, fun k => (by cases k), fun k => absurd k h⟩
  have P1 := Lib.hid (fun v hf hr (hn : n ≤ 100) => ipart_is a b ao n cap X f p q c v hf hn hr hI)
  have P2 := Lib.hid (fun v hr (hn : n ≤ 100) => rpart_is a b ao n cap X f p q c v hn hr hI)
  have M1 := Lib.hid (fun v hf hr (hn : n ≤ 100) => imay_is ao n cap X f m v hf hn hr hm)
  have M2 := Lib.hid (fun v hr (hn : n ≤ 100) => imr_is ao n cap X f m v hn hr hm)
  clear hI hm
  go_enter Tryd.func3, Tryd.ntmps3
  go_wp2_with fail
  replace H := H.quad (w.heap.size) (.int .i64 a) (.int .i64 b) (.slice ao n cap) (.int .i64 f) 24 rfl
  (with_reducible refine (ishown_any _ (H.facts (by repeat (first | with_reducible exact List.mem_cons_self | with_reducible apply List.mem_cons_of_mem)))).mono ?_)
  rintro e w1 ⟨rfl, hb⟩
  replace H := H.below hb
  clear hb
  by_cases hn : n ≤ 60
  rotate_left
  · have t1 : decide ((n : Int) > 60) = true := by simp; omega
    go_wp2
    go_ret
    exact ⟨rfl, H.old⟩
  have hn' : n ≤ 100 := by omega
  go_wp2_with fail
  (with_reducible refine (P1.out _ (H.facts (by repeat (first | with_reducible exact List.mem_cons_self | with_reducible apply List.mem_cons_of_mem))) (H.row (by repeat (first | with_reducible exact List.mem_cons_self | with_reducible apply List.mem_cons_of_mem))) hn').mono ?_)
  rintro e w2 ⟨rfl, hb⟩
  replace H := H.below hb
  clear hb
  go_wp2_with fail
  replace H := H.pair (w2.heap.size) (.int .i64 p) (.int .i64 q) 27 rfl
  (with_reducible refine (P2.out _ (H.row (by repeat (first | with_reducible exact List.mem_cons_self | with_reducible apply List.mem_cons_of_mem))) hn').mono ?_)
  rintro e w3 ⟨rfl, hb⟩
  replace H := H.below hb
  clear hb
  have cx0 := H.cell (w2.heap.size) 0 (.int .i64 p) (by repeat (first | with_reducible exact List.mem_cons_self | with_reducible apply List.mem_cons_of_mem))
  have cx1 := H.cell (w2.heap.size) 1 (.int .i64 q) (by repeat (first | with_reducible exact List.mem_cons_self | with_reducible apply List.mem_cons_of_mem))
  have lx := cell_lt cx0
  go_wp2_with fail
  clear cx0 cx1 lx
  replace H := H.pair (w3.heap.size) (.int .i64 p) (.int .i64 q) 27 rfl
  (with_reducible refine (M1.out _ (H.facts (by repeat (first | with_reducible exact List.mem_cons_self | with_reducible apply List.mem_cons_of_mem))) (H.row (by repeat (first | with_reducible exact List.mem_cons_self | with_reducible apply List.mem_cons_of_mem))) hn').mono ?_)
  rintro e w4 ⟨rfl, hb⟩
  replace H := H.below hb
  clear hb
  have cx0 := H.cell (w2.heap.size) 0 (.int .i64 p) (by repeat (first | with_reducible exact List.mem_cons_self | with_reducible apply List.mem_cons_of_mem))
  have cx1 := H.cell (w2.heap.size) 1 (.int .i64 q) (by repeat (first | with_reducible exact List.mem_cons_self | with_reducible apply List.mem_cons_of_mem))
  have lx := cell_lt cx0
  have cy0 := H.cell (w3.heap.size) 0 (.int .i64 p) (by repeat (first | with_reducible exact List.mem_cons_self | with_reducible apply List.mem_cons_of_mem))
  have cy1 := H.cell (w3.heap.size) 1 (.int .i64 q) (by repeat (first | with_reducible exact List.mem_cons_self | with_reducible apply List.mem_cons_of_mem))
  have ly := cell_lt cy0
  go_wp2_with fail
  clear cx0 cx1 lx cy0 cy1 ly
  (with_reducible refine (M2.out _ (H.row (by repeat (first | with_reducible exact List.mem_cons_self | with_reducible apply List.mem_cons_of_mem))) hn').mono ?_)
  rintro e w5 ⟨rfl, hb⟩
  replace H := H.below hb
  clear hb
  have cx0 := H.cell (w2.heap.size) 0 (.int .i64 p) (by repeat (first | with_reducible exact List.mem_cons_self | with_reducible apply List.mem_cons_of_mem))
  have cx1 := H.cell (w2.heap.size) 1 (.int .i64 q) (by repeat (first | with_reducible exact List.mem_cons_self | with_reducible apply List.mem_cons_of_mem))
  have lx := cell_lt cx0
  have cy0 := H.cell (w3.heap.size) 0 (.int .i64 p) (by repeat (first | with_reducible exact List.mem_cons_self | with_reducible apply List.mem_cons_of_mem))
  have cy1 := H.cell (w3.heap.size) 1 (.int .i64 q) (by repeat (first | with_reducible exact List.mem_cons_self | with_reducible apply List.mem_cons_of_mem))
  have ly := cell_lt cy0
  go_wp2_with fail
  clear cx0 cx1 lx cy0 cy1 ly
  go_ret
  exact ⟨rfl, H.old⟩
end Go.Proofs.YtcplfgmajbadmaaDoor
