/-
  DERIVED. GIVEN WITH THE SEED: THE CARDS: each row of YtmbhcomkdcodfaaDoorRows.lean that lists a variable, with what it lists TIED to the program's text (the seventh form; the later family's looks); each row that meets fmt, with fmt's text TOLD by the authors' own Lean function (tested against real Go, not proved from fmt's source: count such statements apart). THE CARD IS WHAT COUNTS. Prove the row's statement (the work); the ties are given (YtmbhcomkdcodfaaDoorTie.lean); close each card by the builder's one call (the guide's Derived/Test/ToyasCard.lean, 'card_holds'). Laid BY PROGRAM, IN A SANDBOX (cutbox-door.mjs). By AI agents, Wed Nov 11 2026. No macro, syntax, notation, axiom, sorry.
-/
import Derived.Test.YtmbhcomkdcodfaaDoorRows
import GoSem.ClaimSeven
namespace Go.Proofs.YtmbhcomkdcodfaaDoor
namespace Rows

/-- THE TIED CARD OF 'demurragelaw05.MonthsTells'. -/
def monthsTellsCard : Claim7 := { stood := { row := monthsTellsRow, standIns := [], harness := (true, "8586cfbbfd5b274bfc3dbcf88fd56333f3330da32f86217fef369196fb6fa35c"), looks := false }, kinds := [], alts := [], laidByText := true, laidKinds := [.data], laidTests := true, laidLooks := .later }
def MonthsTellsCardSaid : Prop := Claim7.holds Tryd.pinned (.plain (OpenSpec.ofChange monthsTellsSpec)) monthsTellsCard

/-- THE TIED CARD OF 'demurragelaw05.MonthsEnds'. -/
def monthsEndsCard : Claim7 := { stood := { row := monthsEndsRow, standIns := [], harness := (true, "8586cfbbfd5b274bfc3dbcf88fd56333f3330da32f86217fef369196fb6fa35c"), looks := false }, kinds := [], alts := [], laidByText := true, laidKinds := [.data], laidTests := true, laidLooks := .later }
def MonthsEndsCardSaid : Prop := Claim7.holds Tryd.pinned (.plain (OpenSpec.ofChange monthsEndsSpec)) monthsEndsCard

/-- THE TIED CARD OF 'demurragelaw05.MonthsMoves'. -/
def monthsMovesCard : Claim7 := { stood := { row := monthsMovesRow, standIns := [], harness := (true, "8586cfbbfd5b274bfc3dbcf88fd56333f3330da32f86217fef369196fb6fa35c"), looks := false }, kinds := [], alts := [], laidByText := true, laidKinds := [.data], laidTests := true, laidLooks := .later }
def MonthsMovesCardSaid : Prop := Claim7.holds Tryd.pinned (.plain (OpenSpec.ofChange monthsMovesSpec)) monthsMovesCard

/-- THE TIED CARD OF 'demurragelaw05.MonthsBack'. -/
def monthsBackCard : Claim7 := { stood := { row := monthsBackRow, standIns := [], harness := (true, "8586cfbbfd5b274bfc3dbcf88fd56333f3330da32f86217fef369196fb6fa35c"), looks := false }, kinds := [], alts := [], laidByText := true, laidKinds := [.data], laidTests := true, laidLooks := .later }
def MonthsBackCardSaid : Prop := Claim7.holds Tryd.pinned (.plain (OpenSpec.ofChange monthsBackSpec)) monthsBackCard

/-- THE TIED CARD OF 'demurragelaw05.MonthsRise'. -/
def monthsRiseCard : Claim7 := { stood := { row := monthsRiseRow, standIns := [], harness := (true, "8586cfbbfd5b274bfc3dbcf88fd56333f3330da32f86217fef369196fb6fa35c"), looks := false }, kinds := [], alts := [], laidByText := true, laidKinds := [.data], laidTests := true, laidLooks := .later }
def MonthsRiseCardSaid : Prop := Claim7.holds Tryd.pinned (.plain (OpenSpec.ofChange monthsRiseSpec)) monthsRiseCard

/-- THE TIED CARD OF 'demurragelaw05.MonthsEras'. -/
def monthsErasCard : Claim7 := { stood := { row := monthsErasRow, standIns := [], harness := (true, "8586cfbbfd5b274bfc3dbcf88fd56333f3330da32f86217fef369196fb6fa35c"), looks := false }, kinds := [], alts := [], laidByText := true, laidKinds := [.data], laidTests := true, laidLooks := .later }
def MonthsErasCardSaid : Prop := Claim7.holds Tryd.pinned (.plain (OpenSpec.ofChange monthsErasSpec)) monthsErasCard

/-- THE SECOND FORM's CARD OF 'demurragelaw05.MonthsTells'. -/
def monthsTellsUptoCard : Claim7 := { stood := { row := monthsTellsUptoRow, standIns := [], harness := (true, "8586cfbbfd5b274bfc3dbcf88fd56333f3330da32f86217fef369196fb6fa35c"), looks := false }, kinds := [], alts := [], laidByText := true, laidKinds := [.data], laidTests := true, laidLooks := .later }
def MonthsTellsUptoCardSaid : Prop := Claim7.holds Tryd.pinned (.plain (OpenSpec.upto monthsTellsSpec)) monthsTellsUptoCard

/-- THE SECOND FORM's CARD OF 'demurragelaw05.MonthsEnds'. -/
def monthsEndsUptoCard : Claim7 := { stood := { row := monthsEndsUptoRow, standIns := [], harness := (true, "8586cfbbfd5b274bfc3dbcf88fd56333f3330da32f86217fef369196fb6fa35c"), looks := false }, kinds := [], alts := [], laidByText := true, laidKinds := [.data], laidTests := true, laidLooks := .later }
def MonthsEndsUptoCardSaid : Prop := Claim7.holds Tryd.pinned (.plain (OpenSpec.upto monthsEndsSpec)) monthsEndsUptoCard

/-- THE SECOND FORM's CARD OF 'demurragelaw05.MonthsMoves'. -/
def monthsMovesUptoCard : Claim7 := { stood := { row := monthsMovesUptoRow, standIns := [], harness := (true, "8586cfbbfd5b274bfc3dbcf88fd56333f3330da32f86217fef369196fb6fa35c"), looks := false }, kinds := [], alts := [], laidByText := true, laidKinds := [.data], laidTests := true, laidLooks := .later }
def MonthsMovesUptoCardSaid : Prop := Claim7.holds Tryd.pinned (.plain (OpenSpec.upto monthsMovesSpec)) monthsMovesUptoCard

/-- THE SECOND FORM's CARD OF 'demurragelaw05.MonthsBack'. -/
def monthsBackUptoCard : Claim7 := { stood := { row := monthsBackUptoRow, standIns := [], harness := (true, "8586cfbbfd5b274bfc3dbcf88fd56333f3330da32f86217fef369196fb6fa35c"), looks := false }, kinds := [], alts := [], laidByText := true, laidKinds := [.data], laidTests := true, laidLooks := .later }
def MonthsBackUptoCardSaid : Prop := Claim7.holds Tryd.pinned (.plain (OpenSpec.upto monthsBackSpec)) monthsBackUptoCard

/-- THE SECOND FORM's CARD OF 'demurragelaw05.MonthsRise'. -/
def monthsRiseUptoCard : Claim7 := { stood := { row := monthsRiseUptoRow, standIns := [], harness := (true, "8586cfbbfd5b274bfc3dbcf88fd56333f3330da32f86217fef369196fb6fa35c"), looks := false }, kinds := [], alts := [], laidByText := true, laidKinds := [.data], laidTests := true, laidLooks := .later }
def MonthsRiseUptoCardSaid : Prop := Claim7.holds Tryd.pinned (.plain (OpenSpec.upto monthsRiseSpec)) monthsRiseUptoCard

/-- THE SECOND FORM's CARD OF 'demurragelaw05.MonthsEras'. -/
def monthsErasUptoCard : Claim7 := { stood := { row := monthsErasUptoRow, standIns := [], harness := (true, "8586cfbbfd5b274bfc3dbcf88fd56333f3330da32f86217fef369196fb6fa35c"), looks := false }, kinds := [], alts := [], laidByText := true, laidKinds := [.data], laidTests := true, laidLooks := .later }
def MonthsErasUptoCardSaid : Prop := Claim7.holds Tryd.pinned (.plain (OpenSpec.upto monthsErasSpec)) monthsErasUptoCard
end Rows
end Go.Proofs.YtmbhcomkdcodfaaDoor
