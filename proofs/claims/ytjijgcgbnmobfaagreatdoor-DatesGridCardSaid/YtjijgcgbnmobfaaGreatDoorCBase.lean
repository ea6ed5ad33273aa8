/- (Beside the fractions' texts.) Small laws of the memory that every walk of this layer leans on; what is known of the memory, as one list of facts that is carried from call to call; boxes of one, two and three cells; what the table of the months' lengths holds. -/
import Derived.Test.YtjijgcgbnmobfaaGreatDoorProg
import Derived.Test.YtjijgcgbnmobfaaGreatDoorCNum
import Derived.Test.YtjijgcgbnmobfaaGreatDoorGWide
import Derived.Test.YtjijgcgbnmobfaaGreatDoorGcd
import Derived.WalkKit
import Derived.WalkSpells
import Derived.WalkMore
import Derived.ScopeJumps
import Derived.RegionTactic
import Derived.Deep.QuietTactic
import Derived.BigQuiet
import Derived.Outline
import Derived.Deep.RegionHeld3
import Derived.Deep.DeepCutAuto
import Derived.Deep.LoopGhost
import Derived.WalkLawsBesides
import Derived.Deep.CutRange
import Derived.Lib.Hide
namespace Go.Proofs.YtjijgcgbnmobfaaGreatDoor
open Go.RowKit

/-- A call that leaves the memory alone leaves the older part alone. -/
theorem Calls.same {P : Program} {f : FuncId} {args : Array Value} {w : World} {v : Value}
    (h : Calls P f args w fun e w' => e = .returned v ∧ w = w') : Calls P f args w fun e w' => e = .returned v ∧ Below w.heap.size w w' :=
  h.mono fun _ _ hh => ⟨hh.1, hh.2 ▸ Below.refl _ _⟩
theorem Held.triple {w W : World} {fs : List Fact} (h : Held w fs W) (B : Nat) (u v x : Value) (t : TypeId) (hB : W.heap.size = B) :
    Held w (.cell B 0 u :: .cell B 1 v :: .cell B 2 x :: .free B 0 :: .free B 1 :: .free B 2 :: fs) (W.alloc (.cells #[u, v, x] t)) := by
  subst hB
  exact ((((((h.alloc _).add (f := .free W.heap.size 2) ⟨by simp, by simp [go_sem]⟩).add (f := .free W.heap.size 1) ⟨by simp, by simp [go_sem]⟩).add (f := .free W.heap.size 0) ⟨by simp, by simp [go_sem]⟩).add (f := .cell W.heap.size 2 x) (by simp [Fact.at, World.cell?_alloc_new])).add (f := .cell W.heap.size 1 v) (by simp [Fact.at, World.cell?_alloc_new])).add (f := .cell W.heap.size 0 u) (by simp [Fact.at, World.cell?_alloc_new])

/-- The table of the months' lengths, as the program lays it. -/
def Lens (w : World) : Prop := ∀ i : Nat, i < 12 → w.cell? ⟨7, i, none⟩ = some (.int .i64 (l0 ((i : Int) + 1)))
theorem Lens.below {W W' : World} (h : Lens W) (hb : Below W.heap.size W W') : Lens W' := fun i hi => keep hb (cell_lt (h i hi)) (h i hi)
theorem Lens.drewN {W : World} (h : Lens W) (n : Nat) : Lens (W.drewN n) := h.below (drewN_below n)
theorem Lens.alloc {W : World} (h : Lens W) (o : Obj) : Lens (W.alloc o) := h.below ((Below.refl _ _).alloc (Nat.le_refl _) o)
/-- The fact that the table stands. -/
def lensF : Fact := .that Lens (fun _ _ hb h => h.below hb)
end Go.Proofs.YtjijgcgbnmobfaaGreatDoor
