/- The reference: a fraction's two numbers, of any size. -/
import Derived.Test.YtkmchbllnfoccaaGreatDoorRefMade
namespace Go.Proofs.YtkmchbllnfoccaaGreatDoor
open Go.RowKit
set_option linter.unusedVariables false

/-- Two numbers, in new memory, are handed back. -/
def TwoOut (n d : Int) (w : World) (e : Ending) (w' : World) : Prop := ∃ a k c a2 k2 c2, e = .returned (.tuple #[.agg #[.slice a k c], .agg #[.slice a2 k2 c2]]) ∧ BigN w' (.slice a k c) n 5 ∧ BigN w' (.slice a2 k2 c2) d 5 ∧
  (∀ g, (Value.slice a k c).ownBlock = some g → w.heap.size ≤ g) ∧ (∀ g, (Value.slice a2 k2 c2).ownBlock = some g → w.heap.size ≤ g) ∧ Below w.heap.size w w'
theorem two_out {w W : World} {B : Nat} {n d : Int} {a a2 : Option Addr} {k c k2 c2 : Nat} (hB : w.heap.size = B) (h1 : BigN W (.slice a k c) n 5) (h2 : BigN W (.slice a2 k2 c2) d 5) (f1 : ∀ g, (Value.slice a k c).ownBlock = some g → B + 3 ≤ g) (f2 : ∀ g, (Value.slice a2 k2 c2).ownBlock = some g → B + 3 ≤ g) (old : Below B w W) :
    TwoOut n d w (.returned (.tuple #[.agg #[.slice a k c], .agg #[.slice a2 k2 c2]])) ((W.setCell ⟨B + 1, 0, none⟩ (.slice a k c)).setCell ⟨B + 2, 0, none⟩ (.slice a2 k2 c2)) := by
  subst hB
  refine ⟨a, k, c, a2, k2, c2, rfl, bigN_set_old (bigN_set_old h1 f1 (by simp)) f1 (by simp), bigN_set_old (bigN_set_old h2 f2 (by simp)) f2 (by simp), fun g hg => by have := f1 g hg; omega, fun g hg => by have := f2 g hg; omega, (old.setCell (by simp) _).setCell (by simp) _⟩

set_option maxHeartbeats 4000000 in
theorem big_n (n d : Int) (w : World) (n0 : 0 ≤ n) (n1 : n < 9223372036854775808) (d0 : 0 ≤ d) (d1 : d < 9223372036854775808) :
    Calls Tryz.prog 31 #[.agg #[.int .i64 n, .int .i64 d]] w (TwoOut n d w) := by
  have H := Held.start w
  obtain ⟨B, hB⟩ : ∃ B, w.heap.size = B := ⟨_, rfl⟩
  have HB := Lib.hid hB
  clear hB
  go_enter Tryz.func31, Tryz.ntmps31
  go_wp2_with fail
  replace H := (((H.pair (w.heap.size) (.int .i64 n) (.int .i64 d) 29 rfl).lone (w.heap.size + 1) (.slice none 0 0) 71 (by simp)).lone (w.heap.size + 2) (.slice none 0 0) 71 (by simp))
  have ca0 := H.cell (w.heap.size) 0 (.int .i64 n) (List.Mem.tail _ (List.Mem.tail _ (List.Mem.tail _ (List.Mem.tail _ (List.Mem.head _)))))
  have ca1 := H.cell (w.heap.size) 1 (.int .i64 d) (List.Mem.tail _ (List.Mem.tail _ (List.Mem.tail _ (List.Mem.tail _ (List.Mem.tail _ (List.Mem.head _))))))
  have la := H.lt (w.heap.size) 0 (.int .i64 n) (List.Mem.tail _ (List.Mem.tail _ (List.Mem.tail _ (List.Mem.tail _ (List.Mem.head _)))))
  have cp0 := H.cell (w.heap.size + 1) 0 (.slice none 0 0) (List.Mem.tail _ (List.Mem.tail _ (List.Mem.head _)))
  have lp := H.lt (w.heap.size + 1) 0 (.slice none 0 0) (List.Mem.tail _ (List.Mem.tail _ (List.Mem.head _)))
  have cq0 := H.cell (w.heap.size + 2) 0 (.slice none 0 0) (List.Mem.head _)
  have lq := H.lt (w.heap.size + 2) 0 (.slice none 0 0) (List.Mem.head _)
  have fp0 := H.frozen (w.heap.size + 1) 0 (List.Mem.tail _ (List.Mem.tail _ (List.Mem.tail _ (List.Mem.head _))))
  have fq0 := H.frozen (w.heap.size + 2) 0 (List.Mem.tail _ (List.Mem.head _))
  replace H := H.drew
  go_region_with
    (first
      | (go_at_call 52; (with_reducible refine (from_n n _ (by omega) (by omega)).mono ?_); rintro e w' ⟨sa, sk, sc, rfl, NN, FN, hb⟩; have FS := Lib.hid (fun g hg => show w.heap.size + 3 ≤ g from Nat.le_trans (H.lt (w.heap.size + 2) 0 (.slice none 0 0) (by repeat (first | with_reducible exact List.mem_cons_self | with_reducible apply List.mem_cons_of_mem))) (FN g hg)); replace H := (H.below hb).num NN; clear hb NN FN; replace ca0 := H.cell (w.heap.size) 0 (.int .i64 n) (by repeat (first | with_reducible exact List.mem_cons_self | with_reducible apply List.mem_cons_of_mem)); replace ca1 := H.cell (w.heap.size) 1 (.int .i64 d) (by repeat (first | with_reducible exact List.mem_cons_self | with_reducible apply List.mem_cons_of_mem)); replace la := H.lt (w.heap.size) 0 (.int .i64 n) (by repeat (first | with_reducible exact List.mem_cons_self | with_reducible apply List.mem_cons_of_mem)); replace cp0 := H.cell (w.heap.size + 1) 0 (.slice none 0 0) (by repeat (first | with_reducible exact List.mem_cons_self | with_reducible apply List.mem_cons_of_mem)); replace lp := H.lt (w.heap.size + 1) 0 (.slice none 0 0) (by repeat (first | with_reducible exact List.mem_cons_self | with_reducible apply List.mem_cons_of_mem)); replace cq0 := H.cell (w.heap.size + 2) 0 (.slice none 0 0) (by repeat (first | with_reducible exact List.mem_cons_self | with_reducible apply List.mem_cons_of_mem)); replace lq := H.lt (w.heap.size + 2) 0 (.slice none 0 0) (by repeat (first | with_reducible exact List.mem_cons_self | with_reducible apply List.mem_cons_of_mem)); replace fp0 := H.frozen (w.heap.size + 1) 0 (by repeat (first | with_reducible exact List.mem_cons_self | with_reducible apply List.mem_cons_of_mem)); replace fq0 := H.frozen (w.heap.size + 2) 0 (by repeat (first | with_reducible exact List.mem_cons_self | with_reducible apply List.mem_cons_of_mem)))
      | (go_at_call 52; (with_reducible refine (from_n d _ (by omega) (by omega)).mono ?_); rintro e w' ⟨ta, tk, tc, rfl, NN, FN, hb⟩; have FT := Lib.hid (fun g hg => show w.heap.size + 3 ≤ g from Nat.le_trans (H.lt (w.heap.size + 2) 0 (.slice none 0 0) (by repeat (first | with_reducible exact List.mem_cons_self | with_reducible apply List.mem_cons_of_mem))) (FN g hg)); replace H := (H.below hb).num NN; clear hb NN FN; replace ca0 := H.cell (w.heap.size) 0 (.int .i64 n) (by repeat (first | with_reducible exact List.mem_cons_self | with_reducible apply List.mem_cons_of_mem)); replace ca1 := H.cell (w.heap.size) 1 (.int .i64 d) (by repeat (first | with_reducible exact List.mem_cons_self | with_reducible apply List.mem_cons_of_mem)); replace la := H.lt (w.heap.size) 0 (.int .i64 n) (by repeat (first | with_reducible exact List.mem_cons_self | with_reducible apply List.mem_cons_of_mem)); replace cp0 := H.cell (w.heap.size + 1) 0 (.slice none 0 0) (by repeat (first | with_reducible exact List.mem_cons_self | with_reducible apply List.mem_cons_of_mem)); replace lp := H.lt (w.heap.size + 1) 0 (.slice none 0 0) (by repeat (first | with_reducible exact List.mem_cons_self | with_reducible apply List.mem_cons_of_mem)); replace cq0 := H.cell (w.heap.size + 2) 0 (.slice none 0 0) (by repeat (first | with_reducible exact List.mem_cons_self | with_reducible apply List.mem_cons_of_mem)); replace lq := H.lt (w.heap.size + 2) 0 (.slice none 0 0) (by repeat (first | with_reducible exact List.mem_cons_self | with_reducible apply List.mem_cons_of_mem)); replace fp0 := H.frozen (w.heap.size + 1) 0 (by repeat (first | with_reducible exact List.mem_cons_self | with_reducible apply List.mem_cons_of_mem)); replace fq0 := H.frozen (w.heap.size + 2) 0 (by repeat (first | with_reducible exact List.mem_cons_self | with_reducible apply List.mem_cons_of_mem))))
  all_goals
    have FIN := Lib.hid (two_out rfl (H.big (.slice sa sk sc) n 5 (by repeat (first | with_reducible exact List.mem_cons_self | with_reducible apply List.mem_cons_of_mem))) (H.big (.slice ta tk tc) d 5 (by repeat (first | with_reducible exact List.mem_cons_self | with_reducible apply List.mem_cons_of_mem))) FS.out FT.out H.old)
    go_wp2
    exact bodyPost_ret (v := .tuple #[.agg #[.slice sa sk sc], .agg #[.slice ta tk tc]]) (by simp [results, Tryz.results31, go_sem, cp0, cq0]) rfl FIN.out
end Go.Proofs.YtkmchbllnfoccaaGreatDoor
