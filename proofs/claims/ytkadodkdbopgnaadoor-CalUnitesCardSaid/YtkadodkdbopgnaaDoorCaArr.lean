/- A box of the call's own whose cells are written one by one: its cells as a function of their number. -/
import Derived.Test.YtkadodkdbopgnaaDoorCaMem
namespace Go.Proofs.YtkadodkdbopgnaaDoor
open Go.RowKit
set_option linter.unusedVariables false

def upd13 (f : Nat → Value) (j : Nat) (u : Value) : Nat → Value := fun k => if k = j then u else f k
theorem upd13_same (f : Nat → Value) (j : Nat) (u : Value) : upd13 f j u j = u := if_pos rfl
def ArrAt (W : World) (B n : Nat) (f : Nat → Value) : Prop := ∀ k, k < n → W.cell? ⟨B, k, none⟩ = some (f k) ∧ W.frozen? ⟨B, k, none⟩ = false
theorem ArrAt.below {W W' : World} {B n : Nat} {f : Nat → Value} (h : ArrAt W B n f) (hb : Below W.heap.size W W') : ArrAt W' B n f := fun k hk =>
  ⟨keep hb (cell_lt (h k hk).1) (h k hk).1, frozen_below hb (cell_lt (h k hk).1) (h k hk).2⟩
theorem ArrAt.set {W : World} {B n : Nat} {f : Nat → Value} (h : ArrAt W B n f) {j : Nat} (hj : j < n) (u : Value) : ArrAt (W.setCell ⟨B, j, none⟩ u) B n (upd13 f j u) := fun k hk => by
  refine ⟨?_, by rw [World.frozen?_setCell]; exact (h k hk).2⟩
  unfold upd13
  by_cases e : k = j
  · subst e
    rw [if_pos rfl]
    exact World.cell?_setCell_same' _ _ _ (by rw [(h k hk).1]; rfl)
  · rw [if_neg e, World.cell?_setCell_other (h := fun g => e (by injection g with _ g2 _; exact g2.symm))]
    exact (h k hk).1
theorem ArrAt.far {W : World} {B C n o : Nat} {f : Nat → Value} (h : ArrAt W B n f) (hB : C ≠ B) (u : Value) : ArrAt (W.setCell ⟨C, o, none⟩ u) B n f := fun k hk => by
  refine ⟨?_, by rw [World.frozen?_setCell]; exact (h k hk).2⟩
  rw [World.cell?_setCell_far W ⟨C, o, none⟩ ⟨B, k, none⟩ u hB]
  exact (h k hk).1
theorem ArrAt.ext {W : World} {B n : Nat} {f g : Nat → Value} (h : ArrAt W B n f) (e : ∀ k, k < n → f k = g k) : ArrAt W B n g := fun k hk => by rw [← e k hk]; exact h k hk
def arrF (B n : Nat) (f : Nat → Value) : Fact := .that (fun W => ArrAt W B n f) (fun _ _ hb h => h.below hb)
theorem Held.arr {w W : World} {fs : List Fact} {B n : Nat} {f : Nat → Value} (h : Held w fs W) (hm : arrF B n f ∈ fs) : ArrAt W B n f := h.all _ hm
end Go.Proofs.YtkadodkdbopgnaaDoor
