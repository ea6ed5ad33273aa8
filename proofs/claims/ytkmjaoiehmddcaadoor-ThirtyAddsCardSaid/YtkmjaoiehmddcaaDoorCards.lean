/-
  DERIVED. GIVEN WITH THE SEED: THE CARDS: each row of YtkmjaoiehmddcaaDoorRows.lean that lists a variable, with what it lists TIED to the program's text (the seventh form; the later family's looks); each row that meets fmt, with fmt's text TOLD by the authors' own Lean function (tested against real Go, not proved from fmt's source: count such statements apart). THE CARD IS WHAT COUNTS. Prove the row's statement (the work); the ties are given (YtkmjaoiehmddcaaDoorTie.lean); close each card by the builder's one call (the guide's Derived/Test/ToyasCard.lean, 'card_holds'). Laid BY PROGRAM, IN A SANDBOX (cutbox-door.mjs). By AI agents, Wed Nov 11 2026. No macro, syntax, notation, axiom, sorry.
-/
import Derived.Test.YtkmjaoiehmddcaaDoorRows
import GoSem.ClaimSeven
namespace Go.Proofs.YtkmjaoiehmddcaaDoor
namespace Rows

/-- THE TIED CARD OF 'demurragelaw07.ThirtyTells'. -/
def thirtyTellsCard : Claim7 := { stood := { row := thirtyTellsRow, standIns := [], harness := (true, "3f01f76d4b0679a8d7f72cf8a53349f8b474de8d85c475dbb07dec15e2fd207c"), looks := false }, kinds := [], alts := [], laidByText := true, laidKinds := [.data], laidTests := true, laidLooks := .later }
def ThirtyTellsCardSaid : Prop := Claim7.holds Tryd.pinned (.plain (OpenSpec.ofChange thirtyTellsSpec)) thirtyTellsCard

/-- THE TIED CARD OF 'demurragelaw07.ThirtyYears'. -/
def thirtyYearsCard : Claim7 := { stood := { row := thirtyYearsRow, standIns := [], harness := (true, "3f01f76d4b0679a8d7f72cf8a53349f8b474de8d85c475dbb07dec15e2fd207c"), looks := false }, kinds := [], alts := [], laidByText := true, laidKinds := [.data], laidTests := true, laidLooks := .later }
def ThirtyYearsCardSaid : Prop := Claim7.holds Tryd.pinned (.plain (OpenSpec.ofChange thirtyYearsSpec)) thirtyYearsCard

/-- THE TIED CARD OF 'demurragelaw07.ThirtyGrows'. -/
def thirtyGrowsCard : Claim7 := { stood := { row := thirtyGrowsRow, standIns := [], harness := (true, "3f01f76d4b0679a8d7f72cf8a53349f8b474de8d85c475dbb07dec15e2fd207c"), looks := false }, kinds := [], alts := [], laidByText := true, laidKinds := [.data], laidTests := true, laidLooks := .later }
def ThirtyGrowsCardSaid : Prop := Claim7.holds Tryd.pinned (.plain (OpenSpec.ofChange thirtyGrowsSpec)) thirtyGrowsCard

/-- THE TIED CARD OF 'demurragelaw07.ThirtyAgree'. -/
def thirtyAgreeCard : Claim7 := { stood := { row := thirtyAgreeRow, standIns := [], harness := (true, "3f01f76d4b0679a8d7f72cf8a53349f8b474de8d85c475dbb07dec15e2fd207c"), looks := false }, kinds := [], alts := [], laidByText := true, laidKinds := [.data], laidTests := true, laidLooks := .later }
def ThirtyAgreeCardSaid : Prop := Claim7.holds Tryd.pinned (.plain (OpenSpec.ofChange thirtyAgreeSpec)) thirtyAgreeCard

/-- THE TIED CARD OF 'demurragelaw07.ThirtyAdds'. -/
def thirtyAddsCard : Claim7 := { stood := { row := thirtyAddsRow, standIns := [], harness := (true, "3f01f76d4b0679a8d7f72cf8a53349f8b474de8d85c475dbb07dec15e2fd207c"), looks := false }, kinds := [], alts := [], laidByText := true, laidKinds := [.data], laidTests := true, laidLooks := .later }
def ThirtyAddsCardSaid : Prop := Claim7.holds Tryd.pinned (.plain (OpenSpec.ofChange thirtyAddsSpec)) thirtyAddsCard

/-- THE TIED CARD OF 'demurragelaw07.ThirtyEnds'. -/
def thirtyEndsCard : Claim7 := { stood := { row := thirtyEndsRow, standIns := [], harness := (true, "3f01f76d4b0679a8d7f72cf8a53349f8b474de8d85c475dbb07dec15e2fd207c"), looks := false }, kinds := [], alts := [], laidByText := true, laidKinds := [.data], laidTests := true, laidLooks := .later }
def ThirtyEndsCardSaid : Prop := Claim7.holds Tryd.pinned (.plain (OpenSpec.ofChange thirtyEndsSpec)) thirtyEndsCard

/-- THE SECOND FORM's CARD OF 'demurragelaw07.ThirtyTells'. -/
def thirtyTellsUptoCard : Claim7 := { stood := { row := thirtyTellsUptoRow, standIns := [], harness := (true, "3f01f76d4b0679a8d7f72cf8a53349f8b474de8d85c475dbb07dec15e2fd207c"), looks := false }, kinds := [], alts := [], laidByText := true, laidKinds := [.data], laidTests := true, laidLooks := .later }
def ThirtyTellsUptoCardSaid : Prop := Claim7.holds Tryd.pinned (.plain (OpenSpec.upto thirtyTellsSpec)) thirtyTellsUptoCard

/-- THE SECOND FORM's CARD OF 'demurragelaw07.ThirtyYears'. -/
def thirtyYearsUptoCard : Claim7 := { stood := { row := thirtyYearsUptoRow, standIns := [], harness := (true, "3f01f76d4b0679a8d7f72cf8a53349f8b474de8d85c475dbb07dec15e2fd207c"), looks := false }, kinds := [], alts := [], laidByText := true, laidKinds := [.data], laidTests := true, laidLooks := .later }
def ThirtyYearsUptoCardSaid : Prop := Claim7.holds Tryd.pinned (.plain (OpenSpec.upto thirtyYearsSpec)) thirtyYearsUptoCard

/-- THE SECOND FORM's CARD OF 'demurragelaw07.ThirtyGrows'. -/
def thirtyGrowsUptoCard : Claim7 := { stood := { row := thirtyGrowsUptoRow, standIns := [], harness := (true, "3f01f76d4b0679a8d7f72cf8a53349f8b474de8d85c475dbb07dec15e2fd207c"), looks := false }, kinds := [], alts := [], laidByText := true, laidKinds := [.data], laidTests := true, laidLooks := .later }
def ThirtyGrowsUptoCardSaid : Prop := Claim7.holds Tryd.pinned (.plain (OpenSpec.upto thirtyGrowsSpec)) thirtyGrowsUptoCard

/-- THE SECOND FORM's CARD OF 'demurragelaw07.ThirtyAgree'. -/
def thirtyAgreeUptoCard : Claim7 := { stood := { row := thirtyAgreeUptoRow, standIns := [], harness := (true, "3f01f76d4b0679a8d7f72cf8a53349f8b474de8d85c475dbb07dec15e2fd207c"), looks := false }, kinds := [], alts := [], laidByText := true, laidKinds := [.data], laidTests := true, laidLooks := .later }
def ThirtyAgreeUptoCardSaid : Prop := Claim7.holds Tryd.pinned (.plain (OpenSpec.upto thirtyAgreeSpec)) thirtyAgreeUptoCard

/-- THE SECOND FORM's CARD OF 'demurragelaw07.ThirtyAdds'. -/
def thirtyAddsUptoCard : Claim7 := { stood := { row := thirtyAddsUptoRow, standIns := [], harness := (true, "3f01f76d4b0679a8d7f72cf8a53349f8b474de8d85c475dbb07dec15e2fd207c"), looks := false }, kinds := [], alts := [], laidByText := true, laidKinds := [.data], laidTests := true, laidLooks := .later }
def ThirtyAddsUptoCardSaid : Prop := Claim7.holds Tryd.pinned (.plain (OpenSpec.upto thirtyAddsSpec)) thirtyAddsUptoCard

/-- THE SECOND FORM's CARD OF 'demurragelaw07.ThirtyEnds'. -/
def thirtyEndsUptoCard : Claim7 := { stood := { row := thirtyEndsUptoRow, standIns := [], harness := (true, "3f01f76d4b0679a8d7f72cf8a53349f8b474de8d85c475dbb07dec15e2fd207c"), looks := false }, kinds := [], alts := [], laidByText := true, laidKinds := [.data], laidTests := true, laidLooks := .later }
def ThirtyEndsUptoCardSaid : Prop := Claim7.holds Tryd.pinned (.plain (OpenSpec.upto thirtyEndsSpec)) thirtyEndsUptoCard
end Rows
end Go.Proofs.YtkmjaoiehmddcaaDoor
