/-
  DERIVED. GIVEN WITH THE SEED: THE CARDS: each row of YthnondaheppkiaaDoorRows.lean that lists a variable, with what it lists TIED to the program's text (the seventh form; the later family's looks); each row that meets fmt, with fmt's text TOLD by the authors' own Lean function (tested against real Go, not proved from fmt's source: count such statements apart). THE CARD IS WHAT COUNTS. Prove the row's statement (the work); the ties are given (YthnondaheppkiaaDoorTie.lean); close each card by the builder's one call (the guide's Derived/Test/ToyasCard.lean, 'card_holds'). Laid BY PROGRAM, IN A SANDBOX (cutbox-door.mjs). By AI agents, Wed Nov 11 2026. No macro, syntax, notation, axiom, sorry.
-/
import Derived.Test.YthnondaheppkiaaDoorRows
import GoSem.ClaimSeven
namespace Go.Proofs.YthnondaheppkiaaDoor
namespace Rows

/-- THE TIED CARD OF 'demurragelaw04.CivilTells'. -/
def civilTellsCard : Claim7 := { stood := { row := civilTellsRow, standIns := [], harness := (true, "613594d975b35f61d0e34d8cebf74c63a815207ceac444d77fb26f90f24c0546"), looks := false }, kinds := [], alts := [], laidByText := true, laidKinds := [.data], laidTests := true, laidLooks := .later }
def CivilTellsCardSaid : Prop := Claim7.holds Tryd.pinned (.plain (OpenSpec.ofChange civilTellsSpec)) civilTellsCard

/-- THE TIED CARD OF 'demurragelaw04.CivilBack'. -/
def civilBackCard : Claim7 := { stood := { row := civilBackRow, standIns := [], harness := (true, "613594d975b35f61d0e34d8cebf74c63a815207ceac444d77fb26f90f24c0546"), looks := false }, kinds := [], alts := [], laidByText := true, laidKinds := [.data], laidTests := true, laidLooks := .later }
def CivilBackCardSaid : Prop := Claim7.holds Tryd.pinned (.plain (OpenSpec.ofChange civilBackSpec)) civilBackCard

/-- THE TIED CARD OF 'demurragelaw04.CivilNext'. -/
def civilNextCard : Claim7 := { stood := { row := civilNextRow, standIns := [], harness := (true, "613594d975b35f61d0e34d8cebf74c63a815207ceac444d77fb26f90f24c0546"), looks := false }, kinds := [], alts := [], laidByText := true, laidKinds := [.data], laidTests := true, laidLooks := .later }
def CivilNextCardSaid : Prop := Claim7.holds Tryd.pinned (.plain (OpenSpec.ofChange civilNextSpec)) civilNextCard

/-- THE TIED CARD OF 'demurragelaw04.CivilOrder'. -/
def civilOrderCard : Claim7 := { stood := { row := civilOrderRow, standIns := [], harness := (true, "613594d975b35f61d0e34d8cebf74c63a815207ceac444d77fb26f90f24c0546"), looks := false }, kinds := [], alts := [], laidByText := true, laidKinds := [.data], laidTests := true, laidLooks := .later }
def CivilOrderCardSaid : Prop := Claim7.holds Tryd.pinned (.plain (OpenSpec.ofChange civilOrderSpec)) civilOrderCard

/-- THE TIED CARD OF 'demurragelaw04.CivilEras'. -/
def civilErasCard : Claim7 := { stood := { row := civilErasRow, standIns := [], harness := (true, "613594d975b35f61d0e34d8cebf74c63a815207ceac444d77fb26f90f24c0546"), looks := false }, kinds := [], alts := [], laidByText := true, laidKinds := [.data], laidTests := true, laidLooks := .later }
def CivilErasCardSaid : Prop := Claim7.holds Tryd.pinned (.plain (OpenSpec.ofChange civilErasSpec)) civilErasCard

/-- THE TIED CARD OF 'demurragelaw04.CivilSpans'. -/
def civilSpansCard : Claim7 := { stood := { row := civilSpansRow, standIns := [], harness := (true, "613594d975b35f61d0e34d8cebf74c63a815207ceac444d77fb26f90f24c0546"), looks := false }, kinds := [], alts := [], laidByText := true, laidKinds := [.data], laidTests := true, laidLooks := .later }
def CivilSpansCardSaid : Prop := Claim7.holds Tryd.pinned (.plain (OpenSpec.ofChange civilSpansSpec)) civilSpansCard

/-- THE TIED CARD OF 'demurragelaw04.CivilMonths'. -/
def civilMonthsCard : Claim7 := { stood := { row := civilMonthsRow, standIns := [], harness := (true, "613594d975b35f61d0e34d8cebf74c63a815207ceac444d77fb26f90f24c0546"), looks := false }, kinds := [], alts := [], laidByText := true, laidKinds := [.data], laidTests := true, laidLooks := .later }
def CivilMonthsCardSaid : Prop := Claim7.holds Tryd.pinned (.plain (OpenSpec.ofChange civilMonthsSpec)) civilMonthsCard

/-- THE SECOND FORM's CARD OF 'demurragelaw04.CivilTells'. -/
def civilTellsUptoCard : Claim7 := { stood := { row := civilTellsUptoRow, standIns := [], harness := (true, "613594d975b35f61d0e34d8cebf74c63a815207ceac444d77fb26f90f24c0546"), looks := false }, kinds := [], alts := [], laidByText := true, laidKinds := [.data], laidTests := true, laidLooks := .later }
def CivilTellsUptoCardSaid : Prop := Claim7.holds Tryd.pinned (.plain (OpenSpec.upto civilTellsSpec)) civilTellsUptoCard

/-- THE SECOND FORM's CARD OF 'demurragelaw04.CivilBack'. -/
def civilBackUptoCard : Claim7 := { stood := { row := civilBackUptoRow, standIns := [], harness := (true, "613594d975b35f61d0e34d8cebf74c63a815207ceac444d77fb26f90f24c0546"), looks := false }, kinds := [], alts := [], laidByText := true, laidKinds := [.data], laidTests := true, laidLooks := .later }
def CivilBackUptoCardSaid : Prop := Claim7.holds Tryd.pinned (.plain (OpenSpec.upto civilBackSpec)) civilBackUptoCard

/-- THE SECOND FORM's CARD OF 'demurragelaw04.CivilNext'. -/
def civilNextUptoCard : Claim7 := { stood := { row := civilNextUptoRow, standIns := [], harness := (true, "613594d975b35f61d0e34d8cebf74c63a815207ceac444d77fb26f90f24c0546"), looks := false }, kinds := [], alts := [], laidByText := true, laidKinds := [.data], laidTests := true, laidLooks := .later }
def CivilNextUptoCardSaid : Prop := Claim7.holds Tryd.pinned (.plain (OpenSpec.upto civilNextSpec)) civilNextUptoCard

/-- THE SECOND FORM's CARD OF 'demurragelaw04.CivilOrder'. -/
def civilOrderUptoCard : Claim7 := { stood := { row := civilOrderUptoRow, standIns := [], harness := (true, "613594d975b35f61d0e34d8cebf74c63a815207ceac444d77fb26f90f24c0546"), looks := false }, kinds := [], alts := [], laidByText := true, laidKinds := [.data], laidTests := true, laidLooks := .later }
def CivilOrderUptoCardSaid : Prop := Claim7.holds Tryd.pinned (.plain (OpenSpec.upto civilOrderSpec)) civilOrderUptoCard

/-- THE SECOND FORM's CARD OF 'demurragelaw04.CivilEras'. -/
def civilErasUptoCard : Claim7 := { stood := { row := civilErasUptoRow, standIns := [], harness := (true, "613594d975b35f61d0e34d8cebf74c63a815207ceac444d77fb26f90f24c0546"), looks := false }, kinds := [], alts := [], laidByText := true, laidKinds := [.data], laidTests := true, laidLooks := .later }
def CivilErasUptoCardSaid : Prop := Claim7.holds Tryd.pinned (.plain (OpenSpec.upto civilErasSpec)) civilErasUptoCard

/-- THE SECOND FORM's CARD OF 'demurragelaw04.CivilSpans'. -/
def civilSpansUptoCard : Claim7 := { stood := { row := civilSpansUptoRow, standIns := [], harness := (true, "613594d975b35f61d0e34d8cebf74c63a815207ceac444d77fb26f90f24c0546"), looks := false }, kinds := [], alts := [], laidByText := true, laidKinds := [.data], laidTests := true, laidLooks := .later }
def CivilSpansUptoCardSaid : Prop := Claim7.holds Tryd.pinned (.plain (OpenSpec.upto civilSpansSpec)) civilSpansUptoCard

/-- THE SECOND FORM's CARD OF 'demurragelaw04.CivilMonths'. -/
def civilMonthsUptoCard : Claim7 := { stood := { row := civilMonthsUptoRow, standIns := [], harness := (true, "613594d975b35f61d0e34d8cebf74c63a815207ceac444d77fb26f90f24c0546"), looks := false }, kinds := [], alts := [], laidByText := true, laidKinds := [.data], laidTests := true, laidLooks := .later }
def CivilMonthsUptoCardSaid : Prop := Claim7.holds Tryd.pinned (.plain (OpenSpec.upto civilMonthsSpec)) civilMonthsUptoCard
end Rows
end Go.Proofs.YthnondaheppkiaaDoor
