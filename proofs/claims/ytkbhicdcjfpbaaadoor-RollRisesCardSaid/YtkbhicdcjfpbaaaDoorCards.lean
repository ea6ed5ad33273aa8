/-
  DERIVED. GIVEN WITH THE SEED: THE CARDS: each row of YtkbhicdcjfpbaaaDoorRows.lean that lists a variable, with what it lists TIED to the program's text (the seventh form; the later family's looks); each row that meets fmt, with fmt's text TOLD by the authors' own Lean function (tested against real Go, not proved from fmt's source: count such statements apart). THE CARD IS WHAT COUNTS. Prove the row's statement (the work); the ties are given (YtkbhicdcjfpbaaaDoorTie.lean); close each card by the builder's one call (the guide's Derived/Test/ToyasCard.lean, 'card_holds'). Laid BY PROGRAM, IN A SANDBOX (cutbox-door.mjs). By AI agents, Wed Nov 11 2026. No macro, syntax, notation, axiom, sorry.
-/
import Derived.Test.YtkbhicdcjfpbaaaDoorRows
import GoSem.ClaimSeven
namespace Go.Proofs.YtkbhicdcjfpbaaaDoor
namespace Rows

/-- THE TIED CARD OF 'demurragelaw14.RollTells'. -/
def rollTellsCard : Claim7 := { stood := { row := rollTellsRow, standIns := [], harness := (true, "482e88c1dfe15d25be4081ca320b56853a1e347e0a76fb09e10de8d55a99ce51"), looks := false }, kinds := [], alts := [], laidByText := true, laidKinds := [.data, .data], laidTests := true, laidLooks := .later }
def RollTellsCardSaid : Prop := Claim7.holds Tryd.pinned (.plain (OpenSpec.ofChange rollTellsSpec)) rollTellsCard

/-- THE TIED CARD OF 'demurragelaw14.RollNearest'. -/
def rollNearestCard : Claim7 := { stood := { row := rollNearestRow, standIns := [], harness := (true, "482e88c1dfe15d25be4081ca320b56853a1e347e0a76fb09e10de8d55a99ce51"), looks := false }, kinds := [], alts := [], laidByText := true, laidKinds := [.data, .data], laidTests := true, laidLooks := .later }
def RollNearestCardSaid : Prop := Claim7.holds Tryd.pinned (.plain (OpenSpec.ofChange rollNearestSpec)) rollNearestCard

/-- THE TIED CARD OF 'demurragelaw14.RollMonth'. -/
def rollMonthCard : Claim7 := { stood := { row := rollMonthRow, standIns := [], harness := (true, "482e88c1dfe15d25be4081ca320b56853a1e347e0a76fb09e10de8d55a99ce51"), looks := false }, kinds := [], alts := [], laidByText := true, laidKinds := [.data, .data], laidTests := true, laidLooks := .later }
def RollMonthCardSaid : Prop := Claim7.holds Tryd.pinned (.plain (OpenSpec.ofChange rollMonthSpec)) rollMonthCard

/-- THE TIED CARD OF 'demurragelaw14.RollRises'. -/
def rollRisesCard : Claim7 := { stood := { row := rollRisesRow, standIns := [], harness := (true, "482e88c1dfe15d25be4081ca320b56853a1e347e0a76fb09e10de8d55a99ce51"), looks := false }, kinds := [], alts := [], laidByText := true, laidKinds := [.data, .data], laidTests := true, laidLooks := .later }
def RollRisesCardSaid : Prop := Claim7.holds Tryd.pinned (.plain (OpenSpec.ofChange rollRisesSpec)) rollRisesCard

/-- THE TIED CARD OF 'demurragelaw14.RollOpen'. -/
def rollOpenCard : Claim7 := { stood := { row := rollOpenRow, standIns := [], harness := (true, "482e88c1dfe15d25be4081ca320b56853a1e347e0a76fb09e10de8d55a99ce51"), looks := false }, kinds := [], alts := [], laidByText := true, laidKinds := [.data, .data], laidTests := true, laidLooks := .later }
def RollOpenCardSaid : Prop := Claim7.holds Tryd.pinned (.plain (OpenSpec.ofChange rollOpenSpec)) rollOpenCard

/-- THE TIED CARD OF 'demurragelaw14.RollTwins'. -/
def rollTwinsCard : Claim7 := { stood := { row := rollTwinsRow, standIns := [], harness := (true, "482e88c1dfe15d25be4081ca320b56853a1e347e0a76fb09e10de8d55a99ce51"), looks := false }, kinds := [], alts := [], laidByText := true, laidKinds := [.data, .data], laidTests := true, laidLooks := .later }
def RollTwinsCardSaid : Prop := Claim7.holds Tryd.pinned (.plain (OpenSpec.ofChange rollTwinsSpec)) rollTwinsCard

/-- THE SECOND FORM's CARD OF 'demurragelaw14.RollTells'. -/
def rollTellsUptoCard : Claim7 := { stood := { row := rollTellsUptoRow, standIns := [], harness := (true, "482e88c1dfe15d25be4081ca320b56853a1e347e0a76fb09e10de8d55a99ce51"), looks := false }, kinds := [], alts := [], laidByText := true, laidKinds := [.data, .data], laidTests := true, laidLooks := .later }
def RollTellsUptoCardSaid : Prop := Claim7.holds Tryd.pinned (.plain (OpenSpec.upto rollTellsSpec)) rollTellsUptoCard

/-- THE SECOND FORM's CARD OF 'demurragelaw14.RollNearest'. -/
def rollNearestUptoCard : Claim7 := { stood := { row := rollNearestUptoRow, standIns := [], harness := (true, "482e88c1dfe15d25be4081ca320b56853a1e347e0a76fb09e10de8d55a99ce51"), looks := false }, kinds := [], alts := [], laidByText := true, laidKinds := [.data, .data], laidTests := true, laidLooks := .later }
def RollNearestUptoCardSaid : Prop := Claim7.holds Tryd.pinned (.plain (OpenSpec.upto rollNearestSpec)) rollNearestUptoCard

/-- THE SECOND FORM's CARD OF 'demurragelaw14.RollMonth'. -/
def rollMonthUptoCard : Claim7 := { stood := { row := rollMonthUptoRow, standIns := [], harness := (true, "482e88c1dfe15d25be4081ca320b56853a1e347e0a76fb09e10de8d55a99ce51"), looks := false }, kinds := [], alts := [], laidByText := true, laidKinds := [.data, .data], laidTests := true, laidLooks := .later }
def RollMonthUptoCardSaid : Prop := Claim7.holds Tryd.pinned (.plain (OpenSpec.upto rollMonthSpec)) rollMonthUptoCard

/-- THE SECOND FORM's CARD OF 'demurragelaw14.RollRises'. -/
def rollRisesUptoCard : Claim7 := { stood := { row := rollRisesUptoRow, standIns := [], harness := (true, "482e88c1dfe15d25be4081ca320b56853a1e347e0a76fb09e10de8d55a99ce51"), looks := false }, kinds := [], alts := [], laidByText := true, laidKinds := [.data, .data], laidTests := true, laidLooks := .later }
def RollRisesUptoCardSaid : Prop := Claim7.holds Tryd.pinned (.plain (OpenSpec.upto rollRisesSpec)) rollRisesUptoCard

/-- THE SECOND FORM's CARD OF 'demurragelaw14.RollOpen'. -/
def rollOpenUptoCard : Claim7 := { stood := { row := rollOpenUptoRow, standIns := [], harness := (true, "482e88c1dfe15d25be4081ca320b56853a1e347e0a76fb09e10de8d55a99ce51"), looks := false }, kinds := [], alts := [], laidByText := true, laidKinds := [.data, .data], laidTests := true, laidLooks := .later }
def RollOpenUptoCardSaid : Prop := Claim7.holds Tryd.pinned (.plain (OpenSpec.upto rollOpenSpec)) rollOpenUptoCard

/-- THE SECOND FORM's CARD OF 'demurragelaw14.RollTwins'. -/
def rollTwinsUptoCard : Claim7 := { stood := { row := rollTwinsUptoRow, standIns := [], harness := (true, "482e88c1dfe15d25be4081ca320b56853a1e347e0a76fb09e10de8d55a99ce51"), looks := false }, kinds := [], alts := [], laidByText := true, laidKinds := [.data, .data], laidTests := true, laidLooks := .later }
def RollTwinsUptoCardSaid : Prop := Claim7.holds Tryd.pinned (.plain (OpenSpec.upto rollTwinsSpec)) rollTwinsUptoCard
end Rows
end Go.Proofs.YtkbhicdcjfpbaaaDoor
