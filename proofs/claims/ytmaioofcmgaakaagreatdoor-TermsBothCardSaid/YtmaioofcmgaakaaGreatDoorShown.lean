/- The document's example, at the head of each statement of layer 1: it holds. -/
import Derived.Test.YtmaioofcmgaakaaGreatDoorDivC
import Derived.WalkLawsBesides
namespace Go.Proofs.YtmaioofcmgaakaaGreatDoor
open Go.RowKit

/-- A cell that was there is there still, behind a call that only makes memory. -/
theorem keep {W w' : World} {p k : Nat} {v : Value} (hb : Below W.heap.size W w') (hp : p < W.heap.size) (h : W.cell? ⟨p, k, none⟩ = some v) : w'.cell? ⟨p, k, none⟩ = some v :=
  (hb.cell (p := ⟨p, k, none⟩) hp).trans h
/-- The same behind a new block and a call. -/
theorem keepA {w1 w' : World} {o : Obj} {p k : Nat} {v : Value} (hb : Below (w1.alloc o).heap.size (w1.alloc o) w') (hp : p < w1.heap.size) (h : w1.cell? ⟨p, k, none⟩ = some v) : w'.cell? ⟨p, k, none⟩ = some v :=
  keep hb (by simp; omega) (new_cell h hp)
theorem own2 {w1 w' : World} {v0 v1 : Value} {t : TypeId} (hb : Below (w1.alloc (.cells #[v0, v1] t)).heap.size (w1.alloc (.cells #[v0, v1] t)) w') :
    w'.cell? ⟨w1.heap.size, 0, none⟩ = some v0 ∧ w'.cell? ⟨w1.heap.size, 1, none⟩ = some v1 :=
  ⟨keep hb (by simp) (by simp [World.cell?_alloc_new]), keep hb (by simp) (by simp [World.cell?_alloc_new])⟩
theorem growA {w1 w' : World} {o : Obj} (hb : Below (w1.alloc o).heap.size (w1.alloc o) w') : w1.heap.size < w'.heap.size := by have := hb.size; simp at this; omega
theorem sizeB {w1 w' : World} {B : Nat} (hb : Below B w1 w') : w1.heap.size ≤ w'.heap.size := hb.size
theorem stepA {w w1 w' : World} {o : Obj} (hB : Below w.heap.size w w1) (hb : Below (w1.alloc o).heap.size (w1.alloc o) w') : Below w.heap.size w w' :=
  (hB.alloc hB.size o).trans (hb.mono (by have := hB.size; simp; omega))
theorem stepC {w w1 w' : World} (hB : Below w.heap.size w w1) (hb : Below w1.heap.size w1 w') : Below w.heap.size w w' :=
  hB.trans (hb.mono hB.size)

end Go.Proofs.YtmaioofcmgaakaaGreatDoor
