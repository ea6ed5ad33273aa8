/- The reference's numbers among the facts that are known of the memory. -/
import Derived.Test.YtmaioofcmgaakaaGreatDoorLimit
namespace Go.Proofs.YtmaioofcmgaakaaGreatDoor
open Go.RowKit

/-- A value is a number of the reference's. -/
def Fact.num (v : Value) (n : Int) (m : Nat) : Fact := .that (fun W => BigN W v n m) (fun _ _ hb h => BigN.below h hb)
theorem Held.num {w W : World} {fs : List Fact} (h : Held w fs W) {v : Value} {n : Int} {m : Nat} (hf : BigN W v n m) : Held w (.num v n m :: fs) W := h.add (f := .num v n m) hf
theorem Held.big {w W : World} {fs : List Fact} (h : Held w fs W) (v : Value) (n : Int) (m : Nat) (hm : Fact.num v n m ∈ fs) : BigN W v n m := h.all _ hm
end Go.Proofs.YtmaioofcmgaakaaGreatDoor
