/-
  DERIVED. GIVEN WITH THE SEED: THE CARDS: each row of YtkadodkdbopgnaaDoorRows.lean that lists a variable, with what it lists TIED to the program's text (the seventh form; the later family's looks); each row that meets fmt, with fmt's text TOLD by the authors' own Lean function (tested against real Go, not proved from fmt's source: count such statements apart). THE CARD IS WHAT COUNTS. Prove the row's statement (the work); the ties are given (YtkadodkdbopgnaaDoorTie.lean); close each card by the builder's one call (the guide's Derived/Test/ToyasCard.lean, 'card_holds'). Laid BY PROGRAM, IN A SANDBOX (cutbox-door.mjs). By AI agents, Wed Nov 11 2026. No macro, syntax, notation, axiom, sorry.
-/
import Derived.Test.YtkadodkdbopgnaaDoorRows
import GoSem.ClaimSeven
namespace Go.Proofs.YtkadodkdbopgnaaDoor
namespace Rows

/-- THE TIED CARD OF 'demurragelaw13.CalTells'. -/
def calTellsCard : Claim7 := { stood := { row := calTellsRow, standIns := [], harness := (true, "cd185b88a9d9eebc3fca8b05f9238da41649af2da26e5801d93a219158d3ead8"), looks := false }, kinds := [], alts := [], laidByText := true, laidKinds := [.data, .data], laidTests := true, laidLooks := .later }
def CalTellsCardSaid : Prop := Claim7.holds Tryd.pinned (.plain (OpenSpec.ofChange calTellsSpec)) calTellsCard

/-- THE TIED CARD OF 'demurragelaw13.CalUnites'. -/
def calUnitesCard : Claim7 := { stood := { row := calUnitesRow, standIns := [], harness := (true, "cd185b88a9d9eebc3fca8b05f9238da41649af2da26e5801d93a219158d3ead8"), looks := false }, kinds := [], alts := [], laidByText := true, laidKinds := [.data, .data], laidTests := true, laidLooks := .later }
def CalUnitesCardSaid : Prop := Claim7.holds Tryd.pinned (.plain (OpenSpec.ofChange calUnitesSpec)) calUnitesCard

/-- THE TIED CARD OF 'demurragelaw13.CalBoth'. -/
def calBothCard : Claim7 := { stood := { row := calBothRow, standIns := [], harness := (true, "cd185b88a9d9eebc3fca8b05f9238da41649af2da26e5801d93a219158d3ead8"), looks := false }, kinds := [], alts := [], laidByText := true, laidKinds := [.data, .data], laidTests := true, laidLooks := .later }
def CalBothCardSaid : Prop := Claim7.holds Tryd.pinned (.plain (OpenSpec.ofChange calBothSpec)) calBothCard

/-- THE TIED CARD OF 'demurragelaw13.CalSums'. -/
def calSumsCard : Claim7 := { stood := { row := calSumsRow, standIns := [], harness := (true, "cd185b88a9d9eebc3fca8b05f9238da41649af2da26e5801d93a219158d3ead8"), looks := false }, kinds := [], alts := [], laidByText := true, laidKinds := [.data, .data], laidTests := true, laidLooks := .later }
def CalSumsCardSaid : Prop := Claim7.holds Tryd.pinned (.plain (OpenSpec.ofChange calSumsSpec)) calSumsCard

/-- THE TIED CARD OF 'demurragelaw13.CalWeeks'. -/
def calWeeksCard : Claim7 := { stood := { row := calWeeksRow, standIns := [], harness := (true, "cd185b88a9d9eebc3fca8b05f9238da41649af2da26e5801d93a219158d3ead8"), looks := false }, kinds := [], alts := [], laidByText := true, laidKinds := [.data, .data], laidTests := true, laidLooks := .later }
def CalWeeksCardSaid : Prop := Claim7.holds Tryd.pinned (.plain (OpenSpec.ofChange calWeeksSpec)) calWeeksCard

/-- THE TIED CARD OF 'demurragelaw13.CalRules'. -/
def calRulesCard : Claim7 := { stood := { row := calRulesRow, standIns := [], harness := (true, "cd185b88a9d9eebc3fca8b05f9238da41649af2da26e5801d93a219158d3ead8"), looks := false }, kinds := [], alts := [], laidByText := true, laidKinds := [.data, .data], laidTests := true, laidLooks := .later }
def CalRulesCardSaid : Prop := Claim7.holds Tryd.pinned (.plain (OpenSpec.ofChange calRulesSpec)) calRulesCard

/-- THE TIED CARD OF 'demurragelaw13.CalOrder'. -/
def calOrderCard : Claim7 := { stood := { row := calOrderRow, standIns := [], harness := (true, "cd185b88a9d9eebc3fca8b05f9238da41649af2da26e5801d93a219158d3ead8"), looks := false }, kinds := [], alts := [], laidByText := true, laidKinds := [.data, .data], laidTests := true, laidLooks := .later }
def CalOrderCardSaid : Prop := Claim7.holds Tryd.pinned (.plain (OpenSpec.ofChange calOrderSpec)) calOrderCard

/-- THE TIED CARD OF 'demurragelaw13.CalWhole'. -/
def calWholeCard : Claim7 := { stood := { row := calWholeRow, standIns := [], harness := (true, "cd185b88a9d9eebc3fca8b05f9238da41649af2da26e5801d93a219158d3ead8"), looks := false }, kinds := [], alts := [], laidByText := true, laidKinds := [.data, .data], laidTests := true, laidLooks := .later }
def CalWholeCardSaid : Prop := Claim7.holds Tryd.pinned (.plain (OpenSpec.ofChange calWholeSpec)) calWholeCard

/-- THE SECOND FORM's CARD OF 'demurragelaw13.CalTells'. -/
def calTellsUptoCard : Claim7 := { stood := { row := calTellsUptoRow, standIns := [], harness := (true, "cd185b88a9d9eebc3fca8b05f9238da41649af2da26e5801d93a219158d3ead8"), looks := false }, kinds := [], alts := [], laidByText := true, laidKinds := [.data, .data], laidTests := true, laidLooks := .later }
def CalTellsUptoCardSaid : Prop := Claim7.holds Tryd.pinned (.plain (OpenSpec.upto calTellsSpec)) calTellsUptoCard

/-- THE SECOND FORM's CARD OF 'demurragelaw13.CalUnites'. -/
def calUnitesUptoCard : Claim7 := { stood := { row := calUnitesUptoRow, standIns := [], harness := (true, "cd185b88a9d9eebc3fca8b05f9238da41649af2da26e5801d93a219158d3ead8"), looks := false }, kinds := [], alts := [], laidByText := true, laidKinds := [.data, .data], laidTests := true, laidLooks := .later }
def CalUnitesUptoCardSaid : Prop := Claim7.holds Tryd.pinned (.plain (OpenSpec.upto calUnitesSpec)) calUnitesUptoCard

/-- THE SECOND FORM's CARD OF 'demurragelaw13.CalBoth'. -/
def calBothUptoCard : Claim7 := { stood := { row := calBothUptoRow, standIns := [], harness := (true, "cd185b88a9d9eebc3fca8b05f9238da41649af2da26e5801d93a219158d3ead8"), looks := false }, kinds := [], alts := [], laidByText := true, laidKinds := [.data, .data], laidTests := true, laidLooks := .later }
def CalBothUptoCardSaid : Prop := Claim7.holds Tryd.pinned (.plain (OpenSpec.upto calBothSpec)) calBothUptoCard

/-- THE SECOND FORM's CARD OF 'demurragelaw13.CalSums'. -/
def calSumsUptoCard : Claim7 := { stood := { row := calSumsUptoRow, standIns := [], harness := (true, "cd185b88a9d9eebc3fca8b05f9238da41649af2da26e5801d93a219158d3ead8"), looks := false }, kinds := [], alts := [], laidByText := true, laidKinds := [.data, .data], laidTests := true, laidLooks := .later }
def CalSumsUptoCardSaid : Prop := Claim7.holds Tryd.pinned (.plain (OpenSpec.upto calSumsSpec)) calSumsUptoCard

/-- THE SECOND FORM's CARD OF 'demurragelaw13.CalWeeks'. -/
def calWeeksUptoCard : Claim7 := { stood := { row := calWeeksUptoRow, standIns := [], harness := (true, "cd185b88a9d9eebc3fca8b05f9238da41649af2da26e5801d93a219158d3ead8"), looks := false }, kinds := [], alts := [], laidByText := true, laidKinds := [.data, .data], laidTests := true, laidLooks := .later }
def CalWeeksUptoCardSaid : Prop := Claim7.holds Tryd.pinned (.plain (OpenSpec.upto calWeeksSpec)) calWeeksUptoCard

/-- THE SECOND FORM's CARD OF 'demurragelaw13.CalRules'. -/
def calRulesUptoCard : Claim7 := { stood := { row := calRulesUptoRow, standIns := [], harness := (true, "cd185b88a9d9eebc3fca8b05f9238da41649af2da26e5801d93a219158d3ead8"), looks := false }, kinds := [], alts := [], laidByText := true, laidKinds := [.data, .data], laidTests := true, laidLooks := .later }
def CalRulesUptoCardSaid : Prop := Claim7.holds Tryd.pinned (.plain (OpenSpec.upto calRulesSpec)) calRulesUptoCard

/-- THE SECOND FORM's CARD OF 'demurragelaw13.CalOrder'. -/
def calOrderUptoCard : Claim7 := { stood := { row := calOrderUptoRow, standIns := [], harness := (true, "cd185b88a9d9eebc3fca8b05f9238da41649af2da26e5801d93a219158d3ead8"), looks := false }, kinds := [], alts := [], laidByText := true, laidKinds := [.data, .data], laidTests := true, laidLooks := .later }
def CalOrderUptoCardSaid : Prop := Claim7.holds Tryd.pinned (.plain (OpenSpec.upto calOrderSpec)) calOrderUptoCard

/-- THE SECOND FORM's CARD OF 'demurragelaw13.CalWhole'. -/
def calWholeUptoCard : Claim7 := { stood := { row := calWholeUptoRow, standIns := [], harness := (true, "cd185b88a9d9eebc3fca8b05f9238da41649af2da26e5801d93a219158d3ead8"), looks := false }, kinds := [], alts := [], laidByText := true, laidKinds := [.data, .data], laidTests := true, laidLooks := .later }
def CalWholeUptoCardSaid : Prop := Claim7.holds Tryd.pinned (.plain (OpenSpec.upto calWholeSpec)) calWholeUptoCard
end Rows
end Go.Proofs.YtkadodkdbopgnaaDoor
