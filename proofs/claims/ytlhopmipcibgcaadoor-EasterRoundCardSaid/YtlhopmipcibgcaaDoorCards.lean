/-
  DERIVED. GIVEN WITH THE SEED: THE CARDS: each row of YtlhopmipcibgcaaDoorRows.lean that lists a variable, with what it lists TIED to the program's text (the seventh form; the later family's looks); each row that meets fmt, with fmt's text TOLD by the authors' own Lean function (tested against real Go, not proved from fmt's source: count such statements apart). THE CARD IS WHAT COUNTS. Prove the row's statement (the work); the ties are given (YtlhopmipcibgcaaDoorTie.lean); close each card by the builder's one call (the guide's Derived/Test/ToyasCard.lean, 'card_holds'). Laid BY PROGRAM, IN A SANDBOX (cutbox-door.mjs). By AI agents, Wed Nov 11 2026. No macro, syntax, notation, axiom, sorry.
-/
import Derived.Test.YtlhopmipcibgcaaDoorRows
import GoSem.ClaimSeven
namespace Go.Proofs.YtlhopmipcibgcaaDoor
namespace Rows

/-- THE TIED CARD OF 'demurragelaw11.EasterTells'. -/
def easterTellsCard : Claim7 := { stood := { row := easterTellsRow, standIns := [], harness := (true, "09e1928d0da41d48e06052df1ab3b683cc0a5dec477aa8285ff8e325f800a9ed"), looks := false }, kinds := [], alts := [], laidByText := true, laidKinds := [.data], laidTests := true, laidLooks := .later }
def EasterTellsCardSaid : Prop := Claim7.holds Tryd.pinned (.plain (OpenSpec.ofChange easterTellsSpec)) easterTellsCard

/-- THE TIED CARD OF 'demurragelaw11.EasterSunday'. -/
def easterSundayCard : Claim7 := { stood := { row := easterSundayRow, standIns := [], harness := (true, "09e1928d0da41d48e06052df1ab3b683cc0a5dec477aa8285ff8e325f800a9ed"), looks := false }, kinds := [], alts := [], laidByText := true, laidKinds := [.data], laidTests := true, laidLooks := .later }
def EasterSundayCardSaid : Prop := Claim7.holds Tryd.pinned (.plain (OpenSpec.ofChange easterSundaySpec)) easterSundayCard

/-- THE TIED CARD OF 'demurragelaw11.EasterRound'. -/
def easterRoundCard : Claim7 := { stood := { row := easterRoundRow, standIns := [], harness := (true, "09e1928d0da41d48e06052df1ab3b683cc0a5dec477aa8285ff8e325f800a9ed"), looks := false }, kinds := [], alts := [], laidByText := true, laidKinds := [.data], laidTests := true, laidLooks := .later }
def EasterRoundCardSaid : Prop := Claim7.holds Tryd.pinned (.plain (OpenSpec.ofChange easterRoundSpec)) easterRoundCard

/-- THE TIED CARD OF 'demurragelaw11.EasterApart'. -/
def easterApartCard : Claim7 := { stood := { row := easterApartRow, standIns := [], harness := (true, "09e1928d0da41d48e06052df1ab3b683cc0a5dec477aa8285ff8e325f800a9ed"), looks := false }, kinds := [], alts := [], laidByText := true, laidKinds := [.data], laidTests := true, laidLooks := .later }
def EasterApartCardSaid : Prop := Claim7.holds Tryd.pinned (.plain (OpenSpec.ofChange easterApartSpec)) easterApartCard

/-- THE SECOND FORM's CARD OF 'demurragelaw11.EasterTells'. -/
def easterTellsUptoCard : Claim7 := { stood := { row := easterTellsUptoRow, standIns := [], harness := (true, "09e1928d0da41d48e06052df1ab3b683cc0a5dec477aa8285ff8e325f800a9ed"), looks := false }, kinds := [], alts := [], laidByText := true, laidKinds := [.data], laidTests := true, laidLooks := .later }
def EasterTellsUptoCardSaid : Prop := Claim7.holds Tryd.pinned (.plain (OpenSpec.upto easterTellsSpec)) easterTellsUptoCard

/-- THE SECOND FORM's CARD OF 'demurragelaw11.EasterSunday'. -/
def easterSundayUptoCard : Claim7 := { stood := { row := easterSundayUptoRow, standIns := [], harness := (true, "09e1928d0da41d48e06052df1ab3b683cc0a5dec477aa8285ff8e325f800a9ed"), looks := false }, kinds := [], alts := [], laidByText := true, laidKinds := [.data], laidTests := true, laidLooks := .later }
def EasterSundayUptoCardSaid : Prop := Claim7.holds Tryd.pinned (.plain (OpenSpec.upto easterSundaySpec)) easterSundayUptoCard

/-- THE SECOND FORM's CARD OF 'demurragelaw11.EasterRound'. -/
def easterRoundUptoCard : Claim7 := { stood := { row := easterRoundUptoRow, standIns := [], harness := (true, "09e1928d0da41d48e06052df1ab3b683cc0a5dec477aa8285ff8e325f800a9ed"), looks := false }, kinds := [], alts := [], laidByText := true, laidKinds := [.data], laidTests := true, laidLooks := .later }
def EasterRoundUptoCardSaid : Prop := Claim7.holds Tryd.pinned (.plain (OpenSpec.upto easterRoundSpec)) easterRoundUptoCard

/-- THE SECOND FORM's CARD OF 'demurragelaw11.EasterApart'. -/
def easterApartUptoCard : Claim7 := { stood := { row := easterApartUptoRow, standIns := [], harness := (true, "09e1928d0da41d48e06052df1ab3b683cc0a5dec477aa8285ff8e325f800a9ed"), looks := false }, kinds := [], alts := [], laidByText := true, laidKinds := [.data], laidTests := true, laidLooks := .later }
def EasterApartUptoCardSaid : Prop := Claim7.holds Tryd.pinned (.plain (OpenSpec.upto easterApartSpec)) easterApartUptoCard
end Rows
end Go.Proofs.YtlhopmipcibgcaaDoor
