/-
  DERIVED. GIVEN WITH THE SEED: THE CARDS: each row of YtkmchbllnfoccaaGreatDoorRows.lean that lists a variable, with what it lists TIED to the program's text (the seventh form; the later family's looks); each row that meets fmt, with fmt's text TOLD by the authors' own Lean function (tested against real Go, not proved from fmt's source: count such statements apart). THE CARD IS WHAT COUNTS. Prove the row's statement (the work); the ties are given (YtkmchbllnfoccaaGreatDoorTie.lean); close each card by the builder's one call (the guide's Derived/Test/ToyasCard.lean, 'card_holds'). Laid BY PROGRAM, IN A SANDBOX (cutbox-door.mjs). By AI agents, Wed Nov 11 2026. No macro, syntax, notation, axiom, sorry.
-/
import Derived.Test.YtkmchbllnfoccaaGreatDoorRows
import GoSem.ClaimSeven
namespace Go.Proofs.YtkmchbllnfoccaaGreatDoor
namespace Rows

/-- THE TIED CARD OF 'demurragelaw10.CountTells'. -/
def countTellsCard : Claim7 := { stood := { row := countTellsRow, standIns := [], harness := (true, "7ccd4673b51a6dcea676997cb5b1d16a5327a1fcf4cb86c0a68a9c6934ac8d24"), looks := true }, kinds := [], alts := [], laidByText := true, laidKinds := [.data, .handle, .sentinel, .sentinel, .sentinel, .sentinel, .sentinel, .sentinel, .sentinel, .sentinel, .sentinel], laidTests := true, laidLooks := .later }
def CountTellsCardSaid : Prop := Claim7.holds Tryz.pinned (.plain (OpenSpec.ofChange countTellsSpec)) countTellsCard

/-- THE TIED CARD OF 'demurragelaw10.CountNames'. -/
def countNamesCard : Claim7 := { stood := { row := countNamesRow, standIns := [], harness := (true, "7ccd4673b51a6dcea676997cb5b1d16a5327a1fcf4cb86c0a68a9c6934ac8d24"), looks := true }, kinds := [], alts := [], laidByText := true, laidKinds := [.data, .handle, .sentinel, .sentinel, .sentinel, .sentinel, .sentinel, .sentinel, .sentinel, .sentinel, .sentinel], laidTests := true, laidLooks := .later }
def CountNamesCardSaid : Prop := Claim7.holds Tryz.pinned (.plain (OpenSpec.ofChange countNamesSpec)) countNamesCard

/-- THE TIED CARD OF 'demurragelaw10.CountBeside'. -/
def countBesideCard : Claim7 := { stood := { row := countBesideRow, standIns := [], harness := (true, "7ccd4673b51a6dcea676997cb5b1d16a5327a1fcf4cb86c0a68a9c6934ac8d24"), looks := true }, kinds := [], alts := [], laidByText := true, laidKinds := [.data, .handle, .sentinel, .sentinel, .sentinel, .sentinel, .sentinel, .sentinel, .sentinel, .sentinel, .sentinel], laidTests := true, laidLooks := .later }
def CountBesideCardSaid : Prop := Claim7.holds Tryz.pinned (.plain (OpenSpec.ofChange countBesideSpec)) countBesideCard

/-- THE TIED CARD OF 'demurragelaw10.CountZero'. -/
def countZeroCard : Claim7 := { stood := { row := countZeroRow, standIns := [], harness := (true, "7ccd4673b51a6dcea676997cb5b1d16a5327a1fcf4cb86c0a68a9c6934ac8d24"), looks := true }, kinds := [], alts := [], laidByText := true, laidKinds := [.data, .handle, .sentinel, .sentinel, .sentinel, .sentinel, .sentinel, .sentinel, .sentinel, .sentinel, .sentinel], laidTests := true, laidLooks := .later }
def CountZeroCardSaid : Prop := Claim7.holds Tryz.pinned (.plain (OpenSpec.ofChange countZeroSpec)) countZeroCard

/-- THE TIED CARD OF 'demurragelaw10.CountAdds'. -/
def countAddsCard : Claim7 := { stood := { row := countAddsRow, standIns := [], harness := (true, "7ccd4673b51a6dcea676997cb5b1d16a5327a1fcf4cb86c0a68a9c6934ac8d24"), looks := true }, kinds := [], alts := [], laidByText := true, laidKinds := [.data, .handle, .sentinel, .sentinel, .sentinel, .sentinel, .sentinel, .sentinel, .sentinel, .sentinel, .sentinel], laidTests := true, laidLooks := .later }
def CountAddsCardSaid : Prop := Claim7.holds Tryz.pinned (.plain (OpenSpec.ofChange countAddsSpec)) countAddsCard

/-- THE TIED CARD OF 'demurragelaw10.CountRight'. -/
def countRightCard : Claim7 := { stood := { row := countRightRow, standIns := [], harness := (true, "7ccd4673b51a6dcea676997cb5b1d16a5327a1fcf4cb86c0a68a9c6934ac8d24"), looks := true }, kinds := [], alts := [], laidByText := true, laidKinds := [.data, .handle, .sentinel, .sentinel, .sentinel, .sentinel, .sentinel, .sentinel, .sentinel, .sentinel, .sentinel], laidTests := true, laidLooks := .later }
def CountRightCardSaid : Prop := Claim7.holds Tryz.pinned (.plain (OpenSpec.ofChange countRightSpec)) countRightCard

/-- THE SECOND FORM's CARD OF 'demurragelaw10.CountTells'. -/
def countTellsUptoCard : Claim7 := { stood := { row := countTellsUptoRow, standIns := [], harness := (true, "7ccd4673b51a6dcea676997cb5b1d16a5327a1fcf4cb86c0a68a9c6934ac8d24"), looks := true }, kinds := [], alts := [], laidByText := true, laidKinds := [.data, .handle, .sentinel, .sentinel, .sentinel, .sentinel, .sentinel, .sentinel, .sentinel, .sentinel, .sentinel], laidTests := true, laidLooks := .later }
def CountTellsUptoCardSaid : Prop := Claim7.holds Tryz.pinned (.plain (OpenSpec.upto countTellsSpec)) countTellsUptoCard

/-- THE SECOND FORM's CARD OF 'demurragelaw10.CountNames'. -/
def countNamesUptoCard : Claim7 := { stood := { row := countNamesUptoRow, standIns := [], harness := (true, "7ccd4673b51a6dcea676997cb5b1d16a5327a1fcf4cb86c0a68a9c6934ac8d24"), looks := true }, kinds := [], alts := [], laidByText := true, laidKinds := [.data, .handle, .sentinel, .sentinel, .sentinel, .sentinel, .sentinel, .sentinel, .sentinel, .sentinel, .sentinel], laidTests := true, laidLooks := .later }
def CountNamesUptoCardSaid : Prop := Claim7.holds Tryz.pinned (.plain (OpenSpec.upto countNamesSpec)) countNamesUptoCard

/-- THE SECOND FORM's CARD OF 'demurragelaw10.CountBeside'. -/
def countBesideUptoCard : Claim7 := { stood := { row := countBesideUptoRow, standIns := [], harness := (true, "7ccd4673b51a6dcea676997cb5b1d16a5327a1fcf4cb86c0a68a9c6934ac8d24"), looks := true }, kinds := [], alts := [], laidByText := true, laidKinds := [.data, .handle, .sentinel, .sentinel, .sentinel, .sentinel, .sentinel, .sentinel, .sentinel, .sentinel, .sentinel], laidTests := true, laidLooks := .later }
def CountBesideUptoCardSaid : Prop := Claim7.holds Tryz.pinned (.plain (OpenSpec.upto countBesideSpec)) countBesideUptoCard

/-- THE SECOND FORM's CARD OF 'demurragelaw10.CountZero'. -/
def countZeroUptoCard : Claim7 := { stood := { row := countZeroUptoRow, standIns := [], harness := (true, "7ccd4673b51a6dcea676997cb5b1d16a5327a1fcf4cb86c0a68a9c6934ac8d24"), looks := true }, kinds := [], alts := [], laidByText := true, laidKinds := [.data, .handle, .sentinel, .sentinel, .sentinel, .sentinel, .sentinel, .sentinel, .sentinel, .sentinel, .sentinel], laidTests := true, laidLooks := .later }
def CountZeroUptoCardSaid : Prop := Claim7.holds Tryz.pinned (.plain (OpenSpec.upto countZeroSpec)) countZeroUptoCard

/-- THE SECOND FORM's CARD OF 'demurragelaw10.CountAdds'. -/
def countAddsUptoCard : Claim7 := { stood := { row := countAddsUptoRow, standIns := [], harness := (true, "7ccd4673b51a6dcea676997cb5b1d16a5327a1fcf4cb86c0a68a9c6934ac8d24"), looks := true }, kinds := [], alts := [], laidByText := true, laidKinds := [.data, .handle, .sentinel, .sentinel, .sentinel, .sentinel, .sentinel, .sentinel, .sentinel, .sentinel, .sentinel], laidTests := true, laidLooks := .later }
def CountAddsUptoCardSaid : Prop := Claim7.holds Tryz.pinned (.plain (OpenSpec.upto countAddsSpec)) countAddsUptoCard

/-- THE SECOND FORM's CARD OF 'demurragelaw10.CountRight'. -/
def countRightUptoCard : Claim7 := { stood := { row := countRightUptoRow, standIns := [], harness := (true, "7ccd4673b51a6dcea676997cb5b1d16a5327a1fcf4cb86c0a68a9c6934ac8d24"), looks := true }, kinds := [], alts := [], laidByText := true, laidKinds := [.data, .handle, .sentinel, .sentinel, .sentinel, .sentinel, .sentinel, .sentinel, .sentinel, .sentinel, .sentinel], laidTests := true, laidLooks := .later }
def CountRightUptoCardSaid : Prop := Claim7.holds Tryz.pinned (.plain (OpenSpec.upto countRightSpec)) countRightUptoCard
end Rows
end Go.Proofs.YtkmchbllnfoccaaGreatDoor
