/-
  DERIVED. GIVEN WITH THE SEED: THE CARDS: each row of YtdnpljljjnjmdaaDoorRows.lean that lists a variable, with what it lists TIED to the program's text (the seventh form; the later family's looks); each row that meets fmt, with fmt's text TOLD by the authors' own Lean function (tested against real Go, not proved from fmt's source: count such statements apart). THE CARD IS WHAT COUNTS. Prove the row's statement (the work); the ties are given (YtdnpljljjnjmdaaDoorTie.lean); close each card by the builder's one call (the guide's Derived/Test/ToyasCard.lean, 'card_holds'). Laid BY PROGRAM, IN A SANDBOX (cutbox-door.mjs). By AI agents, Wed Nov 11 2026. No macro, syntax, notation, axiom, sorry.
-/
import Derived.Test.YtdnpljljjnjmdaaDoorRows
import GoSem.ClaimSeven
namespace Go.Proofs.YtdnpljljjnjmdaaDoor
namespace Rows

/-- THE TIED CARD OF 'demurragelaw12.RuleTells'. -/
def ruleTellsCard : Claim7 := { stood := { row := ruleTellsRow, standIns := [], harness := (true, "b774406bf59acbdec6839a9129ff7815e3a8fda3def233fa675e23369de10a7e"), looks := false }, kinds := [], alts := [], laidByText := true, laidKinds := [.data], laidTests := true, laidLooks := .later }
def RuleTellsCardSaid : Prop := Claim7.holds Tryd.pinned (.plain (OpenSpec.ofChange ruleTellsSpec)) ruleTellsCard

/-- THE TIED CARD OF 'demurragelaw12.RuleShifts'. -/
def ruleShiftsCard : Claim7 := { stood := { row := ruleShiftsRow, standIns := [], harness := (true, "b774406bf59acbdec6839a9129ff7815e3a8fda3def233fa675e23369de10a7e"), looks := false }, kinds := [], alts := [], laidByText := true, laidKinds := [.data], laidTests := true, laidLooks := .later }
def RuleShiftsCardSaid : Prop := Claim7.holds Tryd.pinned (.plain (OpenSpec.ofChange ruleShiftsSpec)) ruleShiftsCard

/-- THE TIED CARD OF 'demurragelaw12.RuleDays'. -/
def ruleDaysCard : Claim7 := { stood := { row := ruleDaysRow, standIns := [], harness := (true, "b774406bf59acbdec6839a9129ff7815e3a8fda3def233fa675e23369de10a7e"), looks := false }, kinds := [], alts := [], laidByText := true, laidKinds := [.data], laidTests := true, laidLooks := .later }
def RuleDaysCardSaid : Prop := Claim7.holds Tryd.pinned (.plain (OpenSpec.ofChange ruleDaysSpec)) ruleDaysCard

/-- THE TIED CARD OF 'demurragelaw12.RuleMany'. -/
def ruleManyCard : Claim7 := { stood := { row := ruleManyRow, standIns := [], harness := (true, "b774406bf59acbdec6839a9129ff7815e3a8fda3def233fa675e23369de10a7e"), looks := false }, kinds := [], alts := [], laidByText := true, laidKinds := [.data], laidTests := true, laidLooks := .later }
def RuleManyCardSaid : Prop := Claim7.holds Tryd.pinned (.plain (OpenSpec.ofChange ruleManySpec)) ruleManyCard

/-- THE TIED CARD OF 'demurragelaw12.RuleUnused'. -/
def ruleUnusedCard : Claim7 := { stood := { row := ruleUnusedRow, standIns := [], harness := (true, "b774406bf59acbdec6839a9129ff7815e3a8fda3def233fa675e23369de10a7e"), looks := false }, kinds := [], alts := [], laidByText := true, laidKinds := [.data], laidTests := true, laidLooks := .later }
def RuleUnusedCardSaid : Prop := Claim7.holds Tryd.pinned (.plain (OpenSpec.ofChange ruleUnusedSpec)) ruleUnusedCard

/-- THE TIED CARD OF 'demurragelaw12.RuleYears'. -/
def ruleYearsCard : Claim7 := { stood := { row := ruleYearsRow, standIns := [], harness := (true, "b774406bf59acbdec6839a9129ff7815e3a8fda3def233fa675e23369de10a7e"), looks := false }, kinds := [], alts := [], laidByText := true, laidKinds := [.data], laidTests := true, laidLooks := .later }
def RuleYearsCardSaid : Prop := Claim7.holds Tryd.pinned (.plain (OpenSpec.ofChange ruleYearsSpec)) ruleYearsCard

/-- THE SECOND FORM's CARD OF 'demurragelaw12.RuleTells'. -/
def ruleTellsUptoCard : Claim7 := { stood := { row := ruleTellsUptoRow, standIns := [], harness := (true, "b774406bf59acbdec6839a9129ff7815e3a8fda3def233fa675e23369de10a7e"), looks := false }, kinds := [], alts := [], laidByText := true, laidKinds := [.data], laidTests := true, laidLooks := .later }
def RuleTellsUptoCardSaid : Prop := Claim7.holds Tryd.pinned (.plain (OpenSpec.upto ruleTellsSpec)) ruleTellsUptoCard

/-- THE SECOND FORM's CARD OF 'demurragelaw12.RuleShifts'. -/
def ruleShiftsUptoCard : Claim7 := { stood := { row := ruleShiftsUptoRow, standIns := [], harness := (true, "b774406bf59acbdec6839a9129ff7815e3a8fda3def233fa675e23369de10a7e"), looks := false }, kinds := [], alts := [], laidByText := true, laidKinds := [.data], laidTests := true, laidLooks := .later }
def RuleShiftsUptoCardSaid : Prop := Claim7.holds Tryd.pinned (.plain (OpenSpec.upto ruleShiftsSpec)) ruleShiftsUptoCard

/-- THE SECOND FORM's CARD OF 'demurragelaw12.RuleDays'. -/
def ruleDaysUptoCard : Claim7 := { stood := { row := ruleDaysUptoRow, standIns := [], harness := (true, "b774406bf59acbdec6839a9129ff7815e3a8fda3def233fa675e23369de10a7e"), looks := false }, kinds := [], alts := [], laidByText := true, laidKinds := [.data], laidTests := true, laidLooks := .later }
def RuleDaysUptoCardSaid : Prop := Claim7.holds Tryd.pinned (.plain (OpenSpec.upto ruleDaysSpec)) ruleDaysUptoCard

/-- THE SECOND FORM's CARD OF 'demurragelaw12.RuleMany'. -/
def ruleManyUptoCard : Claim7 := { stood := { row := ruleManyUptoRow, standIns := [], harness := (true, "b774406bf59acbdec6839a9129ff7815e3a8fda3def233fa675e23369de10a7e"), looks := false }, kinds := [], alts := [], laidByText := true, laidKinds := [.data], laidTests := true, laidLooks := .later }
def RuleManyUptoCardSaid : Prop := Claim7.holds Tryd.pinned (.plain (OpenSpec.upto ruleManySpec)) ruleManyUptoCard

/-- THE SECOND FORM's CARD OF 'demurragelaw12.RuleUnused'. -/
def ruleUnusedUptoCard : Claim7 := { stood := { row := ruleUnusedUptoRow, standIns := [], harness := (true, "b774406bf59acbdec6839a9129ff7815e3a8fda3def233fa675e23369de10a7e"), looks := false }, kinds := [], alts := [], laidByText := true, laidKinds := [.data], laidTests := true, laidLooks := .later }
def RuleUnusedUptoCardSaid : Prop := Claim7.holds Tryd.pinned (.plain (OpenSpec.upto ruleUnusedSpec)) ruleUnusedUptoCard

/-- THE SECOND FORM's CARD OF 'demurragelaw12.RuleYears'. -/
def ruleYearsUptoCard : Claim7 := { stood := { row := ruleYearsUptoRow, standIns := [], harness := (true, "b774406bf59acbdec6839a9129ff7815e3a8fda3def233fa675e23369de10a7e"), looks := false }, kinds := [], alts := [], laidByText := true, laidKinds := [.data], laidTests := true, laidLooks := .later }
def RuleYearsUptoCardSaid : Prop := Claim7.holds Tryd.pinned (.plain (OpenSpec.upto ruleYearsSpec)) ruleYearsUptoCard
end Rows
end Go.Proofs.YtdnpljljjnjmdaaDoor
