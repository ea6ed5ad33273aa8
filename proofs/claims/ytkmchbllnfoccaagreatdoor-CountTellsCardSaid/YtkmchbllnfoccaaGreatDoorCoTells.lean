/- CountTells: the walk. -/
import Derived.Test.YtkmchbllnfoccaaGreatDoorCoShown
import Derived.Test.YtkmchbllnfoccaaGreatDoorCoKind
namespace Go.Proofs.YtkmchbllnfoccaaGreatDoor
open Go.RowKit
set_option linter.unusedVariables false
set_option linter.unusedSimpArgs false

set_option maxHeartbeats 4000000 in
set_option maxRecDepth 100000 in
theorem ctells_walk (K : CWay) (k a b : Int) (t : Bool) (en f : Int) (ao : Option Addr) (n cap : Nat) (X : Nat → Int) (s : ByteArray) (w : World) (hL : FactsC w) (hR : RowAt w ao X n cap) (bk : i64B k) :
    Calls Tryz.prog 3 #[.agg #[.int .i64 k, .int .i64 a, .int .i64 b, .bool t, .int .i64 en, .int .i64 f, .slice ao n cap, .string s]] w fun e w' => e = .returned (.bool true) ∧ Below w.heap.size w w' := by
  have H := ((Held.start w).add (f := factsCF) hL).add (f := rowF ao X n cap) hR
  clear hL hR
  obtain ⟨p, q, c, hI⟩ := co_is k a b t en f X n
  obtain ⟨k1, c1, hk⟩ : ∃ k1 c1, kd s = (k1, c1) := ⟨_, _, rfl⟩
  obtain ⟨S, hs⟩ : ∃ S, nm k = S := ⟨_, rfl⟩
  have P1 := Lib.hid (fun v hf hr (hn : n ≤ 100) => K.part k a b t en f ao n cap X p q c v hf bk hn hr hI)
  have P2 := Lib.hid (fun v hr (hn : n ≤ 100) => rpart10_any k a b t en f ao n cap X p q c v hn hr hI)
  have N1 := Lib.hid (fun v hf => K.name k S v hf bk hs)
  have N2 : Hid (∀ v, Calls Tryz.prog 15 #[.int .i64 k] v fun e w' => e = .returned (.string S) ∧ w' = v) := Lib.hid (fun v => by rw [← hs]; exact rname_any k v)
  have M1 := Lib.hid (fun v hf => K.kind s k1 c1 v hf hk)
  have M2 : Hid (∀ v, Calls Tryz.prog 13 #[.string s] v fun e w' => e = .returned (.tuple #[.int .i64 k1, .int .i64 c1]) ∧ w' = v) := Lib.hid (fun v => by
    have := rkind_any s v
    rw [hk] at this
    exact this)
  clear hI hk hs
  go_enter Tryz.func3, Tryz.ntmps3
  go_wp2_with fail
  replace H := (H.alloc (.cells #[.int .i64 k, .int .i64 a, .int .i64 b, .bool t, .int .i64 en, .int .i64 f, .slice ao n cap, .string s] 26)).quad (w.heap.size + 1) (.bool t) (.int .i64 en) (.int .i64 f) (.slice ao n cap) 24 (by simp)
  (with_reducible refine (coshown_any K _ (H.factsC (by repeat (first | with_reducible exact List.mem_cons_self | with_reducible apply List.mem_cons_of_mem)))).mono ?_)
  rintro e w1 ⟨rfl, hb⟩
  replace H := H.below hb
  clear hb
  by_cases hn : n ≤ 60
  rotate_left
  · have t1 : decide ((n : Int) > 60) = true := by simp; omega
    have cs0 := H.cell (w.heap.size + 1) 0 (.bool t) (by repeat (first | with_reducible exact List.mem_cons_self | with_reducible apply List.mem_cons_of_mem))
    have cs1 := H.cell (w.heap.size + 1) 1 (.int .i64 en) (by repeat (first | with_reducible exact List.mem_cons_self | with_reducible apply List.mem_cons_of_mem))
    have cs2 := H.cell (w.heap.size + 1) 2 (.int .i64 f) (by repeat (first | with_reducible exact List.mem_cons_self | with_reducible apply List.mem_cons_of_mem))
    have cs3 := H.cell (w.heap.size + 1) 3 (.slice ao n cap) (by repeat (first | with_reducible exact List.mem_cons_self | with_reducible apply List.mem_cons_of_mem))
    have ls := cell_lt cs0
    go_wp2_with fail
    clear cs0 cs1 cs2 cs3 ls
    go_ret
    exact ⟨rfl, H.old⟩
  have hn' : n ≤ 100 := by omega
  have t1 : decide ((n : Int) > 60) = false := by simp; omega
  clear hn
  by_cases hz : s.size ≤ 40
  rotate_left
  · have t2 : decide ((s.size : Int) > 40) = true := by simp; omega
    have cs0 := H.cell (w.heap.size + 1) 0 (.bool t) (by repeat (first | with_reducible exact List.mem_cons_self | with_reducible apply List.mem_cons_of_mem))
    have cs1 := H.cell (w.heap.size + 1) 1 (.int .i64 en) (by repeat (first | with_reducible exact List.mem_cons_self | with_reducible apply List.mem_cons_of_mem))
    have cs2 := H.cell (w.heap.size + 1) 2 (.int .i64 f) (by repeat (first | with_reducible exact List.mem_cons_self | with_reducible apply List.mem_cons_of_mem))
    have cs3 := H.cell (w.heap.size + 1) 3 (.slice ao n cap) (by repeat (first | with_reducible exact List.mem_cons_self | with_reducible apply List.mem_cons_of_mem))
    have ls := cell_lt cs0
    go_wp2_with fail
    clear cs0 cs1 cs2 cs3 ls
    go_ret
    exact ⟨rfl, H.old⟩
  have t2 : decide ((s.size : Int) > 40) = false := by simp; omega
  have cs0 := H.cell (w.heap.size + 1) 0 (.bool t) (by repeat (first | with_reducible exact List.mem_cons_self | with_reducible apply List.mem_cons_of_mem))
  have cs1 := H.cell (w.heap.size + 1) 1 (.int .i64 en) (by repeat (first | with_reducible exact List.mem_cons_self | with_reducible apply List.mem_cons_of_mem))
  have cs2 := H.cell (w.heap.size + 1) 2 (.int .i64 f) (by repeat (first | with_reducible exact List.mem_cons_self | with_reducible apply List.mem_cons_of_mem))
  have cs3 := H.cell (w.heap.size + 1) 3 (.slice ao n cap) (by repeat (first | with_reducible exact List.mem_cons_self | with_reducible apply List.mem_cons_of_mem))
  have ls := cell_lt cs0
  go_wp2_with fail
  clear cs0 cs1 cs2 cs3 ls
  (with_reducible refine (P1.out _ (H.factsC (by repeat (first | with_reducible exact List.mem_cons_self | with_reducible apply List.mem_cons_of_mem))) (H.row (by repeat (first | with_reducible exact List.mem_cons_self | with_reducible apply List.mem_cons_of_mem))) hn').mono ?_)
  rintro e w2 ⟨rfl, hb⟩
  replace H := H.below hb
  clear hb
  have cs0 := H.cell (w.heap.size + 1) 0 (.bool t) (by repeat (first | with_reducible exact List.mem_cons_self | with_reducible apply List.mem_cons_of_mem))
  have cs1 := H.cell (w.heap.size + 1) 1 (.int .i64 en) (by repeat (first | with_reducible exact List.mem_cons_self | with_reducible apply List.mem_cons_of_mem))
  have cs2 := H.cell (w.heap.size + 1) 2 (.int .i64 f) (by repeat (first | with_reducible exact List.mem_cons_self | with_reducible apply List.mem_cons_of_mem))
  have cs3 := H.cell (w.heap.size + 1) 3 (.slice ao n cap) (by repeat (first | with_reducible exact List.mem_cons_self | with_reducible apply List.mem_cons_of_mem))
  have ls := cell_lt cs0
  go_wp2_with fail
  clear cs0 cs1 cs2 cs3 ls
  replace H := H.pair (w2.heap.size) (.int .i64 p) (.int .i64 q) 29 rfl
  (with_reducible refine (P2.out _ (H.row (by repeat (first | with_reducible exact List.mem_cons_self | with_reducible apply List.mem_cons_of_mem))) hn').mono ?_)
  rintro e w3 ⟨rfl, hb⟩
  replace H := H.below hb
  clear hb
  have cs0 := H.cell (w.heap.size + 1) 0 (.bool t) (by repeat (first | with_reducible exact List.mem_cons_self | with_reducible apply List.mem_cons_of_mem))
  have cs1 := H.cell (w.heap.size + 1) 1 (.int .i64 en) (by repeat (first | with_reducible exact List.mem_cons_self | with_reducible apply List.mem_cons_of_mem))
  have cs2 := H.cell (w.heap.size + 1) 2 (.int .i64 f) (by repeat (first | with_reducible exact List.mem_cons_self | with_reducible apply List.mem_cons_of_mem))
  have cs3 := H.cell (w.heap.size + 1) 3 (.slice ao n cap) (by repeat (first | with_reducible exact List.mem_cons_self | with_reducible apply List.mem_cons_of_mem))
  have ls := cell_lt cs0
  have cx0 := H.cell (w2.heap.size) 0 (.int .i64 p) (by repeat (first | with_reducible exact List.mem_cons_self | with_reducible apply List.mem_cons_of_mem))
  have cx1 := H.cell (w2.heap.size) 1 (.int .i64 q) (by repeat (first | with_reducible exact List.mem_cons_self | with_reducible apply List.mem_cons_of_mem))
  have lx := cell_lt cx0
  go_wp2_with fail
  clear cs0 cs1 cs2 cs3 ls cx0 cx1 lx
  replace H := H.pair (w3.heap.size) (.int .i64 p) (.int .i64 q) 29 rfl
  (with_reducible refine (M1.out _ (H.factsC (by repeat (first | with_reducible exact List.mem_cons_self | with_reducible apply List.mem_cons_of_mem)))).mono ?_)
  rintro e w4 ⟨rfl, hb⟩
  replace H := H.below hb
  clear hb
  have cx0 := H.cell (w2.heap.size) 0 (.int .i64 p) (by repeat (first | with_reducible exact List.mem_cons_self | with_reducible apply List.mem_cons_of_mem))
  have cx1 := H.cell (w2.heap.size) 1 (.int .i64 q) (by repeat (first | with_reducible exact List.mem_cons_self | with_reducible apply List.mem_cons_of_mem))
  have lx := cell_lt cx0
  have cy0 := H.cell (w3.heap.size) 0 (.int .i64 p) (by repeat (first | with_reducible exact List.mem_cons_self | with_reducible apply List.mem_cons_of_mem))
  have cy1 := H.cell (w3.heap.size) 1 (.int .i64 q) (by repeat (first | with_reducible exact List.mem_cons_self | with_reducible apply List.mem_cons_of_mem))
  have ly := cell_lt cy0
  go_wp2_with fail
  clear cx0 cx1 lx cy0 cy1 ly
  (with_reducible refine (M2.out _).mono ?_)
  rintro e v1 ⟨rfl, rfl⟩
  have cx0 := H.cell (w2.heap.size) 0 (.int .i64 p) (by repeat (first | with_reducible exact List.mem_cons_self | with_reducible apply List.mem_cons_of_mem))
  have cx1 := H.cell (w2.heap.size) 1 (.int .i64 q) (by repeat (first | with_reducible exact List.mem_cons_self | with_reducible apply List.mem_cons_of_mem))
  have lx := cell_lt cx0
  have cy0 := H.cell (w3.heap.size) 0 (.int .i64 p) (by repeat (first | with_reducible exact List.mem_cons_self | with_reducible apply List.mem_cons_of_mem))
  have cy1 := H.cell (w3.heap.size) 1 (.int .i64 q) (by repeat (first | with_reducible exact List.mem_cons_self | with_reducible apply List.mem_cons_of_mem))
  have ly := cell_lt cy0
  go_wp2_with fail
  clear cx0 cx1 lx cy0 cy1 ly
  (with_reducible refine (N1.out _ (H.factsC (by repeat (first | with_reducible exact List.mem_cons_self | with_reducible apply List.mem_cons_of_mem)))).mono ?_)
  rintro e w5 ⟨rfl, hb⟩
  replace H := H.below hb
  clear hb
  have cx0 := H.cell (w2.heap.size) 0 (.int .i64 p) (by repeat (first | with_reducible exact List.mem_cons_self | with_reducible apply List.mem_cons_of_mem))
  have cx1 := H.cell (w2.heap.size) 1 (.int .i64 q) (by repeat (first | with_reducible exact List.mem_cons_self | with_reducible apply List.mem_cons_of_mem))
  have lx := cell_lt cx0
  have cy0 := H.cell (w3.heap.size) 0 (.int .i64 p) (by repeat (first | with_reducible exact List.mem_cons_self | with_reducible apply List.mem_cons_of_mem))
  have cy1 := H.cell (w3.heap.size) 1 (.int .i64 q) (by repeat (first | with_reducible exact List.mem_cons_self | with_reducible apply List.mem_cons_of_mem))
  have ly := cell_lt cy0
  go_wp2_with fail
  clear cx0 cx1 lx cy0 cy1 ly
  (with_reducible refine (N2.out _).mono ?_)
  rintro e v2 ⟨rfl, rfl⟩
  have cx0 := H.cell (w2.heap.size) 0 (.int .i64 p) (by repeat (first | with_reducible exact List.mem_cons_self | with_reducible apply List.mem_cons_of_mem))
  have cx1 := H.cell (w2.heap.size) 1 (.int .i64 q) (by repeat (first | with_reducible exact List.mem_cons_self | with_reducible apply List.mem_cons_of_mem))
  have lx := cell_lt cx0
  have cy0 := H.cell (w3.heap.size) 0 (.int .i64 p) (by repeat (first | with_reducible exact List.mem_cons_self | with_reducible apply List.mem_cons_of_mem))
  have cy1 := H.cell (w3.heap.size) 1 (.int .i64 q) (by repeat (first | with_reducible exact List.mem_cons_self | with_reducible apply List.mem_cons_of_mem))
  have ly := cell_lt cy0
  go_wp2_with fail
  clear cx0 cx1 lx cy0 cy1 ly
  go_ret
  exact ⟨rfl, H.old⟩
end Go.Proofs.YtkmchbllnfoccaaGreatDoor
