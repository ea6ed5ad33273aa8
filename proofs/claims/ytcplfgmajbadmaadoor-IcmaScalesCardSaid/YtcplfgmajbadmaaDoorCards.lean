/-
  DERIVED. GIVEN WITH THE SEED: THE CARDS: each row of YtcplfgmajbadmaaDoorRows.lean that lists a variable, with what it lists TIED to the program's text (the seventh form; the later family's looks); each row that meets fmt, with fmt's text TOLD by the authors' own Lean function (tested against real Go, not proved from fmt's source: count such statements apart). THE CARD IS WHAT COUNTS. Prove the row's statement (the work); the ties are given (YtcplfgmajbadmaaDoorTie.lean); close each card by the builder's one call (the guide's Derived/Test/ToyasCard.lean, 'card_holds'). Laid BY PROGRAM, IN A SANDBOX (cutbox-door.mjs). By AI agents, Wed Nov 11 2026. No macro, syntax, notation, axiom, sorry.
-/
import Derived.Test.YtcplfgmajbadmaaDoorRows
import GoSem.ClaimSeven
namespace Go.Proofs.YtcplfgmajbadmaaDoor
namespace Rows

/-- THE TIED CARD OF 'demurragelaw09.IcmaTells'. -/
def icmaTellsCard : Claim7 := { stood := { row := icmaTellsRow, standIns := [], harness := (true, "1db5a72816650683fe138083659dc3d556d0b99b6ca16113beb0efeea8e6b988"), looks := true }, kinds := [], alts := [], laidByText := true, laidKinds := [.data, .handle, .sentinel, .sentinel, .sentinel, .sentinel, .sentinel, .sentinel, .sentinel], laidTests := true, laidLooks := .later }
def IcmaTellsCardSaid : Prop := Claim7.holds Tryd.pinned (.plain (OpenSpec.ofChange icmaTellsSpec)) icmaTellsCard

/-- THE TIED CARD OF 'demurragelaw09.IcmaAdds'. -/
def icmaAddsCard : Claim7 := { stood := { row := icmaAddsRow, standIns := [], harness := (true, "1db5a72816650683fe138083659dc3d556d0b99b6ca16113beb0efeea8e6b988"), looks := true }, kinds := [], alts := [], laidByText := true, laidKinds := [.data, .handle, .sentinel, .sentinel, .sentinel, .sentinel, .sentinel, .sentinel, .sentinel], laidTests := true, laidLooks := .later }
def IcmaAddsCardSaid : Prop := Claim7.holds Tryd.pinned (.plain (OpenSpec.ofChange icmaAddsSpec)) icmaAddsCard

/-- THE TIED CARD OF 'demurragelaw09.IcmaWhole'. -/
def icmaWholeCard : Claim7 := { stood := { row := icmaWholeRow, standIns := [], harness := (true, "1db5a72816650683fe138083659dc3d556d0b99b6ca16113beb0efeea8e6b988"), looks := true }, kinds := [], alts := [], laidByText := true, laidKinds := [.data, .handle, .sentinel, .sentinel, .sentinel, .sentinel, .sentinel, .sentinel, .sentinel], laidTests := true, laidLooks := .later }
def IcmaWholeCardSaid : Prop := Claim7.holds Tryd.pinned (.plain (OpenSpec.ofChange icmaWholeSpec)) icmaWholeCard

/-- THE TIED CARD OF 'demurragelaw09.IcmaSplit'. -/
def icmaSplitCard : Claim7 := { stood := { row := icmaSplitRow, standIns := [], harness := (true, "1db5a72816650683fe138083659dc3d556d0b99b6ca16113beb0efeea8e6b988"), looks := true }, kinds := [], alts := [], laidByText := true, laidKinds := [.data, .handle, .sentinel, .sentinel, .sentinel, .sentinel, .sentinel, .sentinel, .sentinel], laidTests := true, laidLooks := .later }
def IcmaSplitCardSaid : Prop := Claim7.holds Tryd.pinned (.plain (OpenSpec.ofChange icmaSplitSpec)) icmaSplitCard

/-- THE TIED CARD OF 'demurragelaw09.IcmaScales'. -/
def icmaScalesCard : Claim7 := { stood := { row := icmaScalesRow, standIns := [], harness := (true, "1db5a72816650683fe138083659dc3d556d0b99b6ca16113beb0efeea8e6b988"), looks := true }, kinds := [], alts := [], laidByText := true, laidKinds := [.data, .handle, .sentinel, .sentinel, .sentinel, .sentinel, .sentinel, .sentinel, .sentinel], laidTests := true, laidLooks := .later }
def IcmaScalesCardSaid : Prop := Claim7.holds Tryd.pinned (.plain (OpenSpec.ofChange icmaScalesSpec)) icmaScalesCard

/-- THE SECOND FORM's CARD OF 'demurragelaw09.IcmaTells'. -/
def icmaTellsUptoCard : Claim7 := { stood := { row := icmaTellsUptoRow, standIns := [], harness := (true, "1db5a72816650683fe138083659dc3d556d0b99b6ca16113beb0efeea8e6b988"), looks := true }, kinds := [], alts := [], laidByText := true, laidKinds := [.data, .handle, .sentinel, .sentinel, .sentinel, .sentinel, .sentinel, .sentinel, .sentinel], laidTests := true, laidLooks := .later }
def IcmaTellsUptoCardSaid : Prop := Claim7.holds Tryd.pinned (.plain (OpenSpec.upto icmaTellsSpec)) icmaTellsUptoCard

/-- THE SECOND FORM's CARD OF 'demurragelaw09.IcmaAdds'. -/
def icmaAddsUptoCard : Claim7 := { stood := { row := icmaAddsUptoRow, standIns := [], harness := (true, "1db5a72816650683fe138083659dc3d556d0b99b6ca16113beb0efeea8e6b988"), looks := true }, kinds := [], alts := [], laidByText := true, laidKinds := [.data, .handle, .sentinel, .sentinel, .sentinel, .sentinel, .sentinel, .sentinel, .sentinel], laidTests := true, laidLooks := .later }
def IcmaAddsUptoCardSaid : Prop := Claim7.holds Tryd.pinned (.plain (OpenSpec.upto icmaAddsSpec)) icmaAddsUptoCard

/-- THE SECOND FORM's CARD OF 'demurragelaw09.IcmaWhole'. -/
def icmaWholeUptoCard : Claim7 := { stood := { row := icmaWholeUptoRow, standIns := [], harness := (true, "1db5a72816650683fe138083659dc3d556d0b99b6ca16113beb0efeea8e6b988"), looks := true }, kinds := [], alts := [], laidByText := true, laidKinds := [.data, .handle, .sentinel, .sentinel, .sentinel, .sentinel, .sentinel, .sentinel, .sentinel], laidTests := true, laidLooks := .later }
def IcmaWholeUptoCardSaid : Prop := Claim7.holds Tryd.pinned (.plain (OpenSpec.upto icmaWholeSpec)) icmaWholeUptoCard

/-- THE SECOND FORM's CARD OF 'demurragelaw09.IcmaSplit'. -/
def icmaSplitUptoCard : Claim7 := { stood := { row := icmaSplitUptoRow, standIns := [], harness := (true, "1db5a72816650683fe138083659dc3d556d0b99b6ca16113beb0efeea8e6b988"), looks := true }, kinds := [], alts := [], laidByText := true, laidKinds := [.data, .handle, .sentinel, .sentinel, .sentinel, .sentinel, .sentinel, .sentinel, .sentinel], laidTests := true, laidLooks := .later }
def IcmaSplitUptoCardSaid : Prop := Claim7.holds Tryd.pinned (.plain (OpenSpec.upto icmaSplitSpec)) icmaSplitUptoCard

/-- THE SECOND FORM's CARD OF 'demurragelaw09.IcmaScales'. -/
def icmaScalesUptoCard : Claim7 := { stood := { row := icmaScalesUptoRow, standIns := [], harness := (true, "1db5a72816650683fe138083659dc3d556d0b99b6ca16113beb0efeea8e6b988"), looks := true }, kinds := [], alts := [], laidByText := true, laidKinds := [.data, .handle, .sentinel, .sentinel, .sentinel, .sentinel, .sentinel, .sentinel, .sentinel], laidTests := true, laidLooks := .later }
def IcmaScalesUptoCardSaid : Prop := Claim7.holds Tryd.pinned (.plain (OpenSpec.upto icmaScalesSpec)) icmaScalesUptoCard
end Rows
end Go.Proofs.YtcplfgmajbadmaaDoor
