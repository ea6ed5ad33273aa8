/-
  DERIVED. GIVEN WITH THE SEED: THE CARDS: each row of YtpfgdfpaoldhcaaGreatDoorRows.lean that lists a variable, with what it lists TIED to the program's text (the seventh form; the later family's looks); each row that meets fmt, with fmt's text TOLD by the authors' own Lean function (tested against real Go, not proved from fmt's source: count such statements apart). THE CARD IS WHAT COUNTS. Prove the row's statement (the work); the ties are given (YtpfgdfpaoldhcaaGreatDoorTie.lean); close each card by the builder's one call (the guide's Derived/Test/ToyasCard.lean, 'card_holds'). Laid BY PROGRAM, IN A SANDBOX (cutbox-door.mjs). By AI agents, Wed Nov 11 2026. No macro, syntax, notation, axiom, sorry.
-/
import Derived.Test.YtpfgdfpaoldhcaaGreatDoorRows
import GoSem.ClaimSeven
namespace Go.Proofs.YtpfgdfpaoldhcaaGreatDoor
namespace Rows

/-- THE TIED CARD OF 'demurragelaw17.SchedTells'. -/
def schedTellsCard : Claim7 := { stood := { row := schedTellsRow, standIns := [], harness := (true, "f487e76f31273ff075ea504ce42f44dad6f2cd39f84722f129c49107a119c0cf"), looks := true }, kinds := [], alts := [], laidByText := true, laidKinds := [.data, .handle, .sentinel, .sentinel, .sentinel, .sentinel, .sentinel, .sentinel, .sentinel, .sentinel, .sentinel, .data, .data, .sentinel, .sentinel, .sentinel, .sentinel], laidTests := true, laidLooks := .later }
def SchedTellsCardSaid : Prop := Claim7.holds Tryz.pinned (.plain (OpenSpec.ofChange schedTellsSpec)) schedTellsCard

/-- THE TIED CARD OF 'demurragelaw17.SchedRolls'. -/
def schedRollsCard : Claim7 := { stood := { row := schedRollsRow, standIns := [], harness := (true, "f487e76f31273ff075ea504ce42f44dad6f2cd39f84722f129c49107a119c0cf"), looks := true }, kinds := [], alts := [], laidByText := true, laidKinds := [.data, .handle, .sentinel, .sentinel, .sentinel, .sentinel, .sentinel, .sentinel, .sentinel, .sentinel, .sentinel, .data, .data, .sentinel, .sentinel, .sentinel, .sentinel], laidTests := true, laidLooks := .later }
def SchedRollsCardSaid : Prop := Claim7.holds Tryz.pinned (.plain (OpenSpec.ofChange schedRollsSpec)) schedRollsCard

/-- THE TIED CARD OF 'demurragelaw17.SchedSums'. -/
def schedSumsCard : Claim7 := { stood := { row := schedSumsRow, standIns := [], harness := (true, "f487e76f31273ff075ea504ce42f44dad6f2cd39f84722f129c49107a119c0cf"), looks := true }, kinds := [], alts := [], laidByText := true, laidKinds := [.data, .handle, .sentinel, .sentinel, .sentinel, .sentinel, .sentinel, .sentinel, .sentinel, .sentinel, .sentinel, .data, .data, .sentinel, .sentinel, .sentinel, .sentinel], laidTests := true, laidLooks := .later }
def SchedSumsCardSaid : Prop := Claim7.holds Tryz.pinned (.plain (OpenSpec.ofChange schedSumsSpec)) schedSumsCard

/-- THE TIED CARD OF 'demurragelaw17.SchedAlike'. -/
def schedAlikeCard : Claim7 := { stood := { row := schedAlikeRow, standIns := [], harness := (true, "f487e76f31273ff075ea504ce42f44dad6f2cd39f84722f129c49107a119c0cf"), looks := true }, kinds := [], alts := [], laidByText := true, laidKinds := [.data, .handle, .sentinel, .sentinel, .sentinel, .sentinel, .sentinel, .sentinel, .sentinel, .sentinel, .sentinel, .data, .data, .sentinel, .sentinel, .sentinel, .sentinel], laidTests := true, laidLooks := .later }
def SchedAlikeCardSaid : Prop := Claim7.holds Tryz.pinned (.plain (OpenSpec.ofChange schedAlikeSpec)) schedAlikeCard

/-- THE TIED CARD OF 'demurragelaw17.SchedOpen'. -/
def schedOpenCard : Claim7 := { stood := { row := schedOpenRow, standIns := [], harness := (true, "f487e76f31273ff075ea504ce42f44dad6f2cd39f84722f129c49107a119c0cf"), looks := true }, kinds := [], alts := [], laidByText := true, laidKinds := [.data, .handle, .sentinel, .sentinel, .sentinel, .sentinel, .sentinel, .sentinel, .sentinel, .sentinel, .sentinel, .data, .data, .sentinel, .sentinel, .sentinel, .sentinel], laidTests := true, laidLooks := .later }
def SchedOpenCardSaid : Prop := Claim7.holds Tryz.pinned (.plain (OpenSpec.ofChange schedOpenSpec)) schedOpenCard

/-- THE TIED CARD OF 'demurragelaw17.SchedWays'. -/
def schedWaysCard : Claim7 := { stood := { row := schedWaysRow, standIns := [], harness := (true, "f487e76f31273ff075ea504ce42f44dad6f2cd39f84722f129c49107a119c0cf"), looks := true }, kinds := [], alts := [], laidByText := true, laidKinds := [.data, .handle, .sentinel, .sentinel, .sentinel, .sentinel, .sentinel, .sentinel, .sentinel, .sentinel, .sentinel, .data, .data, .sentinel, .sentinel, .sentinel, .sentinel], laidTests := true, laidLooks := .later }
def SchedWaysCardSaid : Prop := Claim7.holds Tryz.pinned (.plain (OpenSpec.ofChange schedWaysSpec)) schedWaysCard

/-- THE SECOND FORM's CARD OF 'demurragelaw17.SchedTells'. -/
def schedTellsUptoCard : Claim7 := { stood := { row := schedTellsUptoRow, standIns := [], harness := (true, "f487e76f31273ff075ea504ce42f44dad6f2cd39f84722f129c49107a119c0cf"), looks := true }, kinds := [], alts := [], laidByText := true, laidKinds := [.data, .handle, .sentinel, .sentinel, .sentinel, .sentinel, .sentinel, .sentinel, .sentinel, .sentinel, .sentinel, .data, .data, .sentinel, .sentinel, .sentinel, .sentinel], laidTests := true, laidLooks := .later }
def SchedTellsUptoCardSaid : Prop := Claim7.holds Tryz.pinned (.plain (OpenSpec.upto schedTellsSpec)) schedTellsUptoCard

/-- THE SECOND FORM's CARD OF 'demurragelaw17.SchedRolls'. -/
def schedRollsUptoCard : Claim7 := { stood := { row := schedRollsUptoRow, standIns := [], harness := (true, "f487e76f31273ff075ea504ce42f44dad6f2cd39f84722f129c49107a119c0cf"), looks := true }, kinds := [], alts := [], laidByText := true, laidKinds := [.data, .handle, .sentinel, .sentinel, .sentinel, .sentinel, .sentinel, .sentinel, .sentinel, .sentinel, .sentinel, .data, .data, .sentinel, .sentinel, .sentinel, .sentinel], laidTests := true, laidLooks := .later }
def SchedRollsUptoCardSaid : Prop := Claim7.holds Tryz.pinned (.plain (OpenSpec.upto schedRollsSpec)) schedRollsUptoCard

/-- THE SECOND FORM's CARD OF 'demurragelaw17.SchedSums'. -/
def schedSumsUptoCard : Claim7 := { stood := { row := schedSumsUptoRow, standIns := [], harness := (true, "f487e76f31273ff075ea504ce42f44dad6f2cd39f84722f129c49107a119c0cf"), looks := true }, kinds := [], alts := [], laidByText := true, laidKinds := [.data, .handle, .sentinel, .sentinel, .sentinel, .sentinel, .sentinel, .sentinel, .sentinel, .sentinel, .sentinel, .data, .data, .sentinel, .sentinel, .sentinel, .sentinel], laidTests := true, laidLooks := .later }
def SchedSumsUptoCardSaid : Prop := Claim7.holds Tryz.pinned (.plain (OpenSpec.upto schedSumsSpec)) schedSumsUptoCard

/-- THE SECOND FORM's CARD OF 'demurragelaw17.SchedAlike'. -/
def schedAlikeUptoCard : Claim7 := { stood := { row := schedAlikeUptoRow, standIns := [], harness := (true, "f487e76f31273ff075ea504ce42f44dad6f2cd39f84722f129c49107a119c0cf"), looks := true }, kinds := [], alts := [], laidByText := true, laidKinds := [.data, .handle, .sentinel, .sentinel, .sentinel, .sentinel, .sentinel, .sentinel, .sentinel, .sentinel, .sentinel, .data, .data, .sentinel, .sentinel, .sentinel, .sentinel], laidTests := true, laidLooks := .later }
def SchedAlikeUptoCardSaid : Prop := Claim7.holds Tryz.pinned (.plain (OpenSpec.upto schedAlikeSpec)) schedAlikeUptoCard

/-- THE SECOND FORM's CARD OF 'demurragelaw17.SchedOpen'. -/
def schedOpenUptoCard : Claim7 := { stood := { row := schedOpenUptoRow, standIns := [], harness := (true, "f487e76f31273ff075ea504ce42f44dad6f2cd39f84722f129c49107a119c0cf"), looks := true }, kinds := [], alts := [], laidByText := true, laidKinds := [.data, .handle, .sentinel, .sentinel, .sentinel, .sentinel, .sentinel, .sentinel, .sentinel, .sentinel, .sentinel, .data, .data, .sentinel, .sentinel, .sentinel, .sentinel], laidTests := true, laidLooks := .later }
def SchedOpenUptoCardSaid : Prop := Claim7.holds Tryz.pinned (.plain (OpenSpec.upto schedOpenSpec)) schedOpenUptoCard

/-- THE SECOND FORM's CARD OF 'demurragelaw17.SchedWays'. -/
def schedWaysUptoCard : Claim7 := { stood := { row := schedWaysUptoRow, standIns := [], harness := (true, "f487e76f31273ff075ea504ce42f44dad6f2cd39f84722f129c49107a119c0cf"), looks := true }, kinds := [], alts := [], laidByText := true, laidKinds := [.data, .handle, .sentinel, .sentinel, .sentinel, .sentinel, .sentinel, .sentinel, .sentinel, .sentinel, .sentinel, .data, .data, .sentinel, .sentinel, .sentinel, .sentinel], laidTests := true, laidLooks := .later }
def SchedWaysUptoCardSaid : Prop := Claim7.holds Tryz.pinned (.plain (OpenSpec.upto schedWaysSpec)) schedWaysUptoCard
end Rows
end Go.Proofs.YtpfgdfpaoldhcaaGreatDoor
