/-
  DERIVED. GIVEN WITH THE SEED: THE CARDS: each row of YtgdhpganognmlaaDoorRows.lean that lists a variable, with what it lists TIED to the program's text (the seventh form; the later family's looks); each row that meets fmt, with fmt's text TOLD by the authors' own Lean function (tested against real Go, not proved from fmt's source: count such statements apart). THE CARD IS WHAT COUNTS. Prove the row's statement (the work); the ties are given (YtgdhpganognmlaaDoorTie.lean); close each card by the builder's one call (the guide's Derived/Test/ToyasCard.lean, 'card_holds'). Laid BY PROGRAM, IN A SANDBOX (cutbox-door.mjs). By AI agents, Wed Nov 11 2026. No macro, syntax, notation, axiom, sorry.
-/
import Derived.Test.YtgdhpganognmlaaDoorRows
import GoSem.ClaimSeven
namespace Go.Proofs.YtgdhpganognmlaaDoor
namespace Rows

/-- THE TIED CARD OF 'demurragelaw06.IsoTells'. -/
def isoTellsCard : Claim7 := { stood := { row := isoTellsRow, standIns := [], harness := (true, "a49e67d0aaf65c8f1bdda86b1cf571d028026369a99e002e1810b62f3516601d"), looks := false }, kinds := [], alts := [], laidByText := true, laidKinds := [.data, .data, .data, .data], laidTests := true, laidLooks := .later }
def IsoTellsCardSaid : Prop := Claim7.holds Tryd.pinned (.plain (OpenSpec.ofChange isoTellsSpec)) isoTellsCard

/-- THE TIED CARD OF 'demurragelaw06.IsoBack'. -/
def isoBackCard : Claim7 := { stood := { row := isoBackRow, standIns := [], harness := (true, "a49e67d0aaf65c8f1bdda86b1cf571d028026369a99e002e1810b62f3516601d"), looks := false }, kinds := [], alts := [], laidByText := true, laidKinds := [.data, .data, .data, .data], laidTests := true, laidLooks := .later }
def IsoBackCardSaid : Prop := Claim7.holds Tryd.pinned (.plain (OpenSpec.ofChange isoBackSpec)) isoBackCard

/-- THE TIED CARD OF 'demurragelaw06.IsoOrder'. -/
def isoOrderCard : Claim7 := { stood := { row := isoOrderRow, standIns := [], harness := (true, "a49e67d0aaf65c8f1bdda86b1cf571d028026369a99e002e1810b62f3516601d"), looks := false }, kinds := [], alts := [], laidByText := true, laidKinds := [.data, .data, .data, .data], laidTests := true, laidLooks := .later }
def IsoOrderCardSaid : Prop := Claim7.holds Tryd.pinned (.plain (OpenSpec.ofChange isoOrderSpec)) isoOrderCard

/-- THE TIED CARD OF 'demurragelaw06.IsoParts'. -/
def isoPartsCard : Claim7 := { stood := { row := isoPartsRow, standIns := [], harness := (true, "a49e67d0aaf65c8f1bdda86b1cf571d028026369a99e002e1810b62f3516601d"), looks := false }, kinds := [], alts := [], laidByText := true, laidKinds := [.data, .data, .data, .data], laidTests := true, laidLooks := .later }
def IsoPartsCardSaid : Prop := Claim7.holds Tryd.pinned (.plain (OpenSpec.ofChange isoPartsSpec)) isoPartsCard

/-- THE TIED CARD OF 'demurragelaw06.IsoNext'. -/
def isoNextCard : Claim7 := { stood := { row := isoNextRow, standIns := [], harness := (true, "a49e67d0aaf65c8f1bdda86b1cf571d028026369a99e002e1810b62f3516601d"), looks := false }, kinds := [], alts := [], laidByText := true, laidKinds := [.data, .data, .data, .data], laidTests := true, laidLooks := .later }
def IsoNextCardSaid : Prop := Claim7.holds Tryd.pinned (.plain (OpenSpec.ofChange isoNextSpec)) isoNextCard

/-- THE SECOND FORM's CARD OF 'demurragelaw06.IsoTells'. -/
def isoTellsUptoCard : Claim7 := { stood := { row := isoTellsUptoRow, standIns := [], harness := (true, "a49e67d0aaf65c8f1bdda86b1cf571d028026369a99e002e1810b62f3516601d"), looks := false }, kinds := [], alts := [], laidByText := true, laidKinds := [.data, .data, .data, .data], laidTests := true, laidLooks := .later }
def IsoTellsUptoCardSaid : Prop := Claim7.holds Tryd.pinned (.plain (OpenSpec.upto isoTellsSpec)) isoTellsUptoCard

/-- THE SECOND FORM's CARD OF 'demurragelaw06.IsoBack'. -/
def isoBackUptoCard : Claim7 := { stood := { row := isoBackUptoRow, standIns := [], harness := (true, "a49e67d0aaf65c8f1bdda86b1cf571d028026369a99e002e1810b62f3516601d"), looks := false }, kinds := [], alts := [], laidByText := true, laidKinds := [.data, .data, .data, .data], laidTests := true, laidLooks := .later }
def IsoBackUptoCardSaid : Prop := Claim7.holds Tryd.pinned (.plain (OpenSpec.upto isoBackSpec)) isoBackUptoCard

/-- THE SECOND FORM's CARD OF 'demurragelaw06.IsoOrder'. -/
def isoOrderUptoCard : Claim7 := { stood := { row := isoOrderUptoRow, standIns := [], harness := (true, "a49e67d0aaf65c8f1bdda86b1cf571d028026369a99e002e1810b62f3516601d"), looks := false }, kinds := [], alts := [], laidByText := true, laidKinds := [.data, .data, .data, .data], laidTests := true, laidLooks := .later }
def IsoOrderUptoCardSaid : Prop := Claim7.holds Tryd.pinned (.plain (OpenSpec.upto isoOrderSpec)) isoOrderUptoCard

/-- THE SECOND FORM's CARD OF 'demurragelaw06.IsoParts'. -/
def isoPartsUptoCard : Claim7 := { stood := { row := isoPartsUptoRow, standIns := [], harness := (true, "a49e67d0aaf65c8f1bdda86b1cf571d028026369a99e002e1810b62f3516601d"), looks := false }, kinds := [], alts := [], laidByText := true, laidKinds := [.data, .data, .data, .data], laidTests := true, laidLooks := .later }
def IsoPartsUptoCardSaid : Prop := Claim7.holds Tryd.pinned (.plain (OpenSpec.upto isoPartsSpec)) isoPartsUptoCard

/-- THE SECOND FORM's CARD OF 'demurragelaw06.IsoNext'. -/
def isoNextUptoCard : Claim7 := { stood := { row := isoNextUptoRow, standIns := [], harness := (true, "a49e67d0aaf65c8f1bdda86b1cf571d028026369a99e002e1810b62f3516601d"), looks := false }, kinds := [], alts := [], laidByText := true, laidKinds := [.data, .data, .data, .data], laidTests := true, laidLooks := .later }
def IsoNextUptoCardSaid : Prop := Claim7.holds Tryd.pinned (.plain (OpenSpec.upto isoNextSpec)) isoNextUptoCard
end Rows
end Go.Proofs.YtgdhpganognmlaaDoor
