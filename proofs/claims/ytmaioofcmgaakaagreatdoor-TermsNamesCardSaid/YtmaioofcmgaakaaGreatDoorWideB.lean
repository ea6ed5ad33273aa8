/- Package wide: Times, Add, Sub: exact, or told as too great, for every numbers. -/
import Derived.Test.YtmaioofcmgaakaaGreatDoorWideA
namespace Go.Proofs.YtmaioofcmgaakaaGreatDoor
open Go.RowKit

theorem bcellB {B : Nat} {W w1 : World} (hb : Below B W w1) : (∀ b o, b < B → w1.cell? ⟨b, o, none⟩ = W.cell? ⟨b, o, none⟩) ∧ (∀ b o, b < B → w1.frozen? ⟨b, o, none⟩ = W.frozen? ⟨b, o, none⟩) :=
  ⟨fun b o h => hb.cell (p := ⟨b, o, none⟩) h, fun b o h => hb.frozen (p := ⟨b, o, none⟩) h⟩

end Go.Proofs.YtmaioofcmgaakaaGreatDoor
