/- Boxes of four cells. -/
import Derived.Test.YtkmchbllnfoccaaGreatDoorCBase
namespace Go.Proofs.YtkmchbllnfoccaaGreatDoor
open Go.RowKit
set_option linter.unusedVariables false

theorem Held.quad {w W : World} {fs : List Fact} (h : Held w fs W) (B : Nat) (u v x z : Value) (t : TypeId) (hB : W.heap.size = B) :
    Held w (.cell B 0 u :: .cell B 1 v :: .cell B 2 x :: .cell B 3 z :: .free B 0 :: .free B 1 :: .free B 2 :: .free B 3 :: fs) (W.alloc (.cells #[u, v, x, z] t)) := by
  subst hB
  exact ((((((((h.alloc _).add (f := .free W.heap.size 3) ⟨by simp, by simp [go_sem]⟩).add (f := .free W.heap.size 2) ⟨by simp, by simp [go_sem]⟩).add (f := .free W.heap.size 1) ⟨by simp, by simp [go_sem]⟩).add (f := .free W.heap.size 0) ⟨by simp, by simp [go_sem]⟩).add (f := .cell W.heap.size 3 z) (by simp [Fact.at, World.cell?_alloc_new])).add (f := .cell W.heap.size 2 x) (by simp [Fact.at, World.cell?_alloc_new])).add (f := .cell W.heap.size 1 v) (by simp [Fact.at, World.cell?_alloc_new])).add (f := .cell W.heap.size 0 u) (by simp [Fact.at, World.cell?_alloc_new])
end Go.Proofs.YtkmchbllnfoccaaGreatDoor
