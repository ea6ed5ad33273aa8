/-
  DERIVED. GIVEN WITH THE SEED: THE CARDS: each row of YtjijgcgbnmobfaaGreatDoorRows.lean that lists a variable, with what it lists TIED to the program's text (the seventh form; the later family's looks); each row that meets fmt, with fmt's text TOLD by the authors' own Lean function (tested against real Go, not proved from fmt's source: count such statements apart). THE CARD IS WHAT COUNTS. Prove the row's statement (the work); the ties are given (YtjijgcgbnmobfaaGreatDoorTie.lean); close each card by the builder's one call (the guide's Derived/Test/ToyasCard.lean, 'card_holds'). Laid BY PROGRAM, IN A SANDBOX (cutbox-door.mjs). By AI agents, Wed Nov 11 2026. No macro, syntax, notation, axiom, sorry.
-/
import Derived.Test.YtjijgcgbnmobfaaGreatDoorRows
import GoSem.ClaimSeven
namespace Go.Proofs.YtjijgcgbnmobfaaGreatDoor
namespace Rows

/-- THE TIED CARD OF 'demurragelaw16.DatesTells'. -/
def datesTellsCard : Claim7 := { stood := { row := datesTellsRow, standIns := [], harness := (true, "224d6aba5af9a2c5f700747e6177df67aca23a44fe98496e826556d74ebd3d07"), looks := true }, kinds := [], alts := [], laidByText := true, laidKinds := [.data, .handle, .sentinel, .sentinel, .sentinel, .sentinel, .sentinel, .sentinel, .sentinel, .sentinel, .sentinel, .data, .data, .sentinel, .sentinel, .sentinel, .sentinel], laidTests := true, laidLooks := .later }
def DatesTellsCardSaid : Prop := Claim7.holds Tryz.pinned (.plain (OpenSpec.ofChange datesTellsSpec)) datesTellsCard

/-- THE TIED CARD OF 'demurragelaw16.DatesRise'. -/
def datesRiseCard : Claim7 := { stood := { row := datesRiseRow, standIns := [], harness := (true, "224d6aba5af9a2c5f700747e6177df67aca23a44fe98496e826556d74ebd3d07"), looks := true }, kinds := [], alts := [], laidByText := true, laidKinds := [.data, .handle, .sentinel, .sentinel, .sentinel, .sentinel, .sentinel, .sentinel, .sentinel, .sentinel, .sentinel, .data, .data, .sentinel, .sentinel, .sentinel, .sentinel], laidTests := true, laidLooks := .later }
def DatesRiseCardSaid : Prop := Claim7.holds Tryz.pinned (.plain (OpenSpec.ofChange datesRiseSpec)) datesRiseCard

/-- THE TIED CARD OF 'demurragelaw16.DatesStub'. -/
def datesStubCard : Claim7 := { stood := { row := datesStubRow, standIns := [], harness := (true, "224d6aba5af9a2c5f700747e6177df67aca23a44fe98496e826556d74ebd3d07"), looks := true }, kinds := [], alts := [], laidByText := true, laidKinds := [.data, .handle, .sentinel, .sentinel, .sentinel, .sentinel, .sentinel, .sentinel, .sentinel, .sentinel, .sentinel, .data, .data, .sentinel, .sentinel, .sentinel, .sentinel], laidTests := true, laidLooks := .later }
def DatesStubCardSaid : Prop := Claim7.holds Tryz.pinned (.plain (OpenSpec.ofChange datesStubSpec)) datesStubCard

/-- THE TIED CARD OF 'demurragelaw16.DatesGrid'. -/
def datesGridCard : Claim7 := { stood := { row := datesGridRow, standIns := [], harness := (true, "224d6aba5af9a2c5f700747e6177df67aca23a44fe98496e826556d74ebd3d07"), looks := true }, kinds := [], alts := [], laidByText := true, laidKinds := [.data, .handle, .sentinel, .sentinel, .sentinel, .sentinel, .sentinel, .sentinel, .sentinel, .sentinel, .sentinel, .data, .data, .sentinel, .sentinel, .sentinel, .sentinel], laidTests := true, laidLooks := .later }
def DatesGridCardSaid : Prop := Claim7.holds Tryz.pinned (.plain (OpenSpec.ofChange datesGridSpec)) datesGridCard

/-- THE TIED CARD OF 'demurragelaw16.DatesMany'. -/
def datesManyCard : Claim7 := { stood := { row := datesManyRow, standIns := [], harness := (true, "224d6aba5af9a2c5f700747e6177df67aca23a44fe98496e826556d74ebd3d07"), looks := true }, kinds := [], alts := [], laidByText := true, laidKinds := [.data, .handle, .sentinel, .sentinel, .sentinel, .sentinel, .sentinel, .sentinel, .sentinel, .sentinel, .sentinel, .data, .data, .sentinel, .sentinel, .sentinel, .sentinel], laidTests := true, laidLooks := .later }
def DatesManyCardSaid : Prop := Claim7.holds Tryz.pinned (.plain (OpenSpec.ofChange datesManySpec)) datesManyCard

/-- THE TIED CARD OF 'demurragelaw16.DatesTurn'. -/
def datesTurnCard : Claim7 := { stood := { row := datesTurnRow, standIns := [], harness := (true, "224d6aba5af9a2c5f700747e6177df67aca23a44fe98496e826556d74ebd3d07"), looks := true }, kinds := [], alts := [], laidByText := true, laidKinds := [.data, .handle, .sentinel, .sentinel, .sentinel, .sentinel, .sentinel, .sentinel, .sentinel, .sentinel, .sentinel, .data, .data, .sentinel, .sentinel, .sentinel, .sentinel], laidTests := true, laidLooks := .later }
def DatesTurnCardSaid : Prop := Claim7.holds Tryz.pinned (.plain (OpenSpec.ofChange datesTurnSpec)) datesTurnCard

/-- THE SECOND FORM's CARD OF 'demurragelaw16.DatesTells'. -/
def datesTellsUptoCard : Claim7 := { stood := { row := datesTellsUptoRow, standIns := [], harness := (true, "224d6aba5af9a2c5f700747e6177df67aca23a44fe98496e826556d74ebd3d07"), looks := true }, kinds := [], alts := [], laidByText := true, laidKinds := [.data, .handle, .sentinel, .sentinel, .sentinel, .sentinel, .sentinel, .sentinel, .sentinel, .sentinel, .sentinel, .data, .data, .sentinel, .sentinel, .sentinel, .sentinel], laidTests := true, laidLooks := .later }
def DatesTellsUptoCardSaid : Prop := Claim7.holds Tryz.pinned (.plain (OpenSpec.upto datesTellsSpec)) datesTellsUptoCard

/-- THE SECOND FORM's CARD OF 'demurragelaw16.DatesRise'. -/
def datesRiseUptoCard : Claim7 := { stood := { row := datesRiseUptoRow, standIns := [], harness := (true, "224d6aba5af9a2c5f700747e6177df67aca23a44fe98496e826556d74ebd3d07"), looks := true }, kinds := [], alts := [], laidByText := true, laidKinds := [.data, .handle, .sentinel, .sentinel, .sentinel, .sentinel, .sentinel, .sentinel, .sentinel, .sentinel, .sentinel, .data, .data, .sentinel, .sentinel, .sentinel, .sentinel], laidTests := true, laidLooks := .later }
def DatesRiseUptoCardSaid : Prop := Claim7.holds Tryz.pinned (.plain (OpenSpec.upto datesRiseSpec)) datesRiseUptoCard

/-- THE SECOND FORM's CARD OF 'demurragelaw16.DatesStub'. -/
def datesStubUptoCard : Claim7 := { stood := { row := datesStubUptoRow, standIns := [], harness := (true, "224d6aba5af9a2c5f700747e6177df67aca23a44fe98496e826556d74ebd3d07"), looks := true }, kinds := [], alts := [], laidByText := true, laidKinds := [.data, .handle, .sentinel, .sentinel, .sentinel, .sentinel, .sentinel, .sentinel, .sentinel, .sentinel, .sentinel, .data, .data, .sentinel, .sentinel, .sentinel, .sentinel], laidTests := true, laidLooks := .later }
def DatesStubUptoCardSaid : Prop := Claim7.holds Tryz.pinned (.plain (OpenSpec.upto datesStubSpec)) datesStubUptoCard

/-- THE SECOND FORM's CARD OF 'demurragelaw16.DatesGrid'. -/
def datesGridUptoCard : Claim7 := { stood := { row := datesGridUptoRow, standIns := [], harness := (true, "224d6aba5af9a2c5f700747e6177df67aca23a44fe98496e826556d74ebd3d07"), looks := true }, kinds := [], alts := [], laidByText := true, laidKinds := [.data, .handle, .sentinel, .sentinel, .sentinel, .sentinel, .sentinel, .sentinel, .sentinel, .sentinel, .sentinel, .data, .data, .sentinel, .sentinel, .sentinel, .sentinel], laidTests := true, laidLooks := .later }
def DatesGridUptoCardSaid : Prop := Claim7.holds Tryz.pinned (.plain (OpenSpec.upto datesGridSpec)) datesGridUptoCard

/-- THE SECOND FORM's CARD OF 'demurragelaw16.DatesMany'. -/
def datesManyUptoCard : Claim7 := { stood := { row := datesManyUptoRow, standIns := [], harness := (true, "224d6aba5af9a2c5f700747e6177df67aca23a44fe98496e826556d74ebd3d07"), looks := true }, kinds := [], alts := [], laidByText := true, laidKinds := [.data, .handle, .sentinel, .sentinel, .sentinel, .sentinel, .sentinel, .sentinel, .sentinel, .sentinel, .sentinel, .data, .data, .sentinel, .sentinel, .sentinel, .sentinel], laidTests := true, laidLooks := .later }
def DatesManyUptoCardSaid : Prop := Claim7.holds Tryz.pinned (.plain (OpenSpec.upto datesManySpec)) datesManyUptoCard

/-- THE SECOND FORM's CARD OF 'demurragelaw16.DatesTurn'. -/
def datesTurnUptoCard : Claim7 := { stood := { row := datesTurnUptoRow, standIns := [], harness := (true, "224d6aba5af9a2c5f700747e6177df67aca23a44fe98496e826556d74ebd3d07"), looks := true }, kinds := [], alts := [], laidByText := true, laidKinds := [.data, .handle, .sentinel, .sentinel, .sentinel, .sentinel, .sentinel, .sentinel, .sentinel, .sentinel, .sentinel, .data, .data, .sentinel, .sentinel, .sentinel, .sentinel], laidTests := true, laidLooks := .later }
def DatesTurnUptoCardSaid : Prop := Claim7.holds Tryz.pinned (.plain (OpenSpec.upto datesTurnSpec)) datesTurnUptoCard
end Rows
end Go.Proofs.YtjijgcgbnmobfaaGreatDoor
