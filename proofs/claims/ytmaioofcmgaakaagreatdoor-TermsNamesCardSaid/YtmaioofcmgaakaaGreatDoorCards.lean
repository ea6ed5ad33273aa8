/-
  DERIVED. GIVEN WITH THE SEED: THE CARDS: each row of YtmaioofcmgaakaaGreatDoorRows.lean that lists a variable, with what it lists TIED to the program's text (the seventh form; the later family's looks); each row that meets fmt, with fmt's text TOLD by the authors' own Lean function (tested against real Go, not proved from fmt's source: count such statements apart). THE CARD IS WHAT COUNTS. Prove the row's statement (the work); the ties are given (YtmaioofcmgaakaaGreatDoorTie.lean); close each card by the builder's one call (the guide's Derived/Test/ToyasCard.lean, 'card_holds'). Laid BY PROGRAM, IN A SANDBOX (cutbox-door.mjs). By AI agents, Wed Nov 11 2026. No macro, syntax, notation, axiom, sorry.
-/
import Derived.Test.YtmaioofcmgaakaaGreatDoorRows
import GoSem.ClaimSeven
namespace Go.Proofs.YtmaioofcmgaakaaGreatDoor
namespace Rows

/-- THE TIED CARD OF 'demurragelaw15.TermsTells'. -/
def termsTellsCard : Claim7 := { stood := { row := termsTellsRow, standIns := [], harness := (true, "7bff5c1cc14fce3a2879cbdf278e9cc9a57282f5d9d2e5f86f9c106177268886"), looks := true }, kinds := [], alts := [], laidByText := true, laidKinds := [.data, .handle, .sentinel, .sentinel, .sentinel, .sentinel, .sentinel, .sentinel, .sentinel, .sentinel, .sentinel, .data, .data, .sentinel, .sentinel, .sentinel, .sentinel], laidTests := true, laidLooks := .later }
def TermsTellsCardSaid : Prop := Claim7.holds Tryz.pinned (.plain (OpenSpec.ofChange termsTellsSpec)) termsTellsCard

/-- THE TIED CARD OF 'demurragelaw15.TermsFree'. -/
def termsFreeCard : Claim7 := { stood := { row := termsFreeRow, standIns := [], harness := (true, "7bff5c1cc14fce3a2879cbdf278e9cc9a57282f5d9d2e5f86f9c106177268886"), looks := true }, kinds := [], alts := [], laidByText := true, laidKinds := [.data, .handle, .sentinel, .sentinel, .sentinel, .sentinel, .sentinel, .sentinel, .sentinel, .sentinel, .sentinel, .data, .data, .sentinel, .sentinel, .sentinel, .sentinel], laidTests := true, laidLooks := .later }
def TermsFreeCardSaid : Prop := Claim7.holds Tryz.pinned (.plain (OpenSpec.ofChange termsFreeSpec)) termsFreeCard

/-- THE TIED CARD OF 'demurragelaw15.TermsOrder'. -/
def termsOrderCard : Claim7 := { stood := { row := termsOrderRow, standIns := [], harness := (true, "7bff5c1cc14fce3a2879cbdf278e9cc9a57282f5d9d2e5f86f9c106177268886"), looks := true }, kinds := [], alts := [], laidByText := true, laidKinds := [.data, .handle, .sentinel, .sentinel, .sentinel, .sentinel, .sentinel, .sentinel, .sentinel, .sentinel, .sentinel, .data, .data, .sentinel, .sentinel, .sentinel, .sentinel], laidTests := true, laidLooks := .later }
def TermsOrderCardSaid : Prop := Claim7.holds Tryz.pinned (.plain (OpenSpec.ofChange termsOrderSpec)) termsOrderCard

/-- THE TIED CARD OF 'demurragelaw15.TermsBoth'. -/
def termsBothCard : Claim7 := { stood := { row := termsBothRow, standIns := [], harness := (true, "7bff5c1cc14fce3a2879cbdf278e9cc9a57282f5d9d2e5f86f9c106177268886"), looks := true }, kinds := [], alts := [], laidByText := true, laidKinds := [.data, .handle, .sentinel, .sentinel, .sentinel, .sentinel, .sentinel, .sentinel, .sentinel, .sentinel, .sentinel, .data, .data, .sentinel, .sentinel, .sentinel, .sentinel], laidTests := true, laidLooks := .later }
def TermsBothCardSaid : Prop := Claim7.holds Tryz.pinned (.plain (OpenSpec.ofChange termsBothSpec)) termsBothCard

/-- THE TIED CARD OF 'demurragelaw15.TermsNames'. -/
def termsNamesCard : Claim7 := { stood := { row := termsNamesRow, standIns := [], harness := (true, "7bff5c1cc14fce3a2879cbdf278e9cc9a57282f5d9d2e5f86f9c106177268886"), looks := true }, kinds := [], alts := [], laidByText := true, laidKinds := [.data, .handle, .sentinel, .sentinel, .sentinel, .sentinel, .sentinel, .sentinel, .sentinel, .sentinel, .sentinel, .data, .data, .sentinel, .sentinel, .sentinel, .sentinel], laidTests := true, laidLooks := .later }
def TermsNamesCardSaid : Prop := Claim7.holds Tryz.pinned (.plain (OpenSpec.ofChange termsNamesSpec)) termsNamesCard

/-- THE SECOND FORM's CARD OF 'demurragelaw15.TermsTells'. -/
def termsTellsUptoCard : Claim7 := { stood := { row := termsTellsUptoRow, standIns := [], harness := (true, "7bff5c1cc14fce3a2879cbdf278e9cc9a57282f5d9d2e5f86f9c106177268886"), looks := true }, kinds := [], alts := [], laidByText := true, laidKinds := [.data, .handle, .sentinel, .sentinel, .sentinel, .sentinel, .sentinel, .sentinel, .sentinel, .sentinel, .sentinel, .data, .data, .sentinel, .sentinel, .sentinel, .sentinel], laidTests := true, laidLooks := .later }
def TermsTellsUptoCardSaid : Prop := Claim7.holds Tryz.pinned (.plain (OpenSpec.upto termsTellsSpec)) termsTellsUptoCard

/-- THE SECOND FORM's CARD OF 'demurragelaw15.TermsFree'. -/
def termsFreeUptoCard : Claim7 := { stood := { row := termsFreeUptoRow, standIns := [], harness := (true, "7bff5c1cc14fce3a2879cbdf278e9cc9a57282f5d9d2e5f86f9c106177268886"), looks := true }, kinds := [], alts := [], laidByText := true, laidKinds := [.data, .handle, .sentinel, .sentinel, .sentinel, .sentinel, .sentinel, .sentinel, .sentinel, .sentinel, .sentinel, .data, .data, .sentinel, .sentinel, .sentinel, .sentinel], laidTests := true, laidLooks := .later }
def TermsFreeUptoCardSaid : Prop := Claim7.holds Tryz.pinned (.plain (OpenSpec.upto termsFreeSpec)) termsFreeUptoCard

/-- THE SECOND FORM's CARD OF 'demurragelaw15.TermsOrder'. -/
def termsOrderUptoCard : Claim7 := { stood := { row := termsOrderUptoRow, standIns := [], harness := (true, "7bff5c1cc14fce3a2879cbdf278e9cc9a57282f5d9d2e5f86f9c106177268886"), looks := true }, kinds := [], alts := [], laidByText := true, laidKinds := [.data, .handle, .sentinel, .sentinel, .sentinel, .sentinel, .sentinel, .sentinel, .sentinel, .sentinel, .sentinel, .data, .data, .sentinel, .sentinel, .sentinel, .sentinel], laidTests := true, laidLooks := .later }
def TermsOrderUptoCardSaid : Prop := Claim7.holds Tryz.pinned (.plain (OpenSpec.upto termsOrderSpec)) termsOrderUptoCard

/-- THE SECOND FORM's CARD OF 'demurragelaw15.TermsBoth'. -/
def termsBothUptoCard : Claim7 := { stood := { row := termsBothUptoRow, standIns := [], harness := (true, "7bff5c1cc14fce3a2879cbdf278e9cc9a57282f5d9d2e5f86f9c106177268886"), looks := true }, kinds := [], alts := [], laidByText := true, laidKinds := [.data, .handle, .sentinel, .sentinel, .sentinel, .sentinel, .sentinel, .sentinel, .sentinel, .sentinel, .sentinel, .data, .data, .sentinel, .sentinel, .sentinel, .sentinel], laidTests := true, laidLooks := .later }
def TermsBothUptoCardSaid : Prop := Claim7.holds Tryz.pinned (.plain (OpenSpec.upto termsBothSpec)) termsBothUptoCard

/-- THE SECOND FORM's CARD OF 'demurragelaw15.TermsNames'. -/
def termsNamesUptoCard : Claim7 := { stood := { row := termsNamesUptoRow, standIns := [], harness := (true, "7bff5c1cc14fce3a2879cbdf278e9cc9a57282f5d9d2e5f86f9c106177268886"), looks := true }, kinds := [], alts := [], laidByText := true, laidKinds := [.data, .handle, .sentinel, .sentinel, .sentinel, .sentinel, .sentinel, .sentinel, .sentinel, .sentinel, .sentinel, .data, .data, .sentinel, .sentinel, .sentinel, .sentinel], laidTests := true, laidLooks := .later }
def TermsNamesUptoCardSaid : Prop := Claim7.holds Tryz.pinned (.plain (OpenSpec.upto termsNamesSpec)) termsNamesUptoCard
end Rows
end Go.Proofs.YtmaioofcmgaakaaGreatDoor
