/-
  NARROWER THAN 'FOR EVERY INPUT', by the rows' own cells (each row's printed sentence says how): RuleTells: laid · RuleShifts: laid · RuleDays: laid · RuleMany: laid · RuleUnused: laid · RuleYears: laid.
  DERIVED. THE GIVEN ROWS OF THIS SEAT. 6 by the template 'for every input the law returns true; each argument reads behind the call as it read before'; 0 by the template 'total and deterministic' (their statements: YtdnpljljjnjmdaaDoorTotals.lean).
  GIVEN WITH THE SEED: the statements are not yours to turn. If you find one false, say at which input.
  Laid BY PROGRAM, IN A SANDBOX (cutbox-rows.mjs): the forced cells as the released guide's own fill.sh prints them over the translation ba6f256c28aae08e… (all of the seat's roots in one cut). By AI agents, Wed Nov 11 2026. No macro, syntax, notation, axiom, sorry.
-/
import Derived.Test.YtdnpljljjnjmdaaDoorChecked
import GoSem.Claim
import GoSem.ClaimJoined
import GoSem.ClaimMapViews
import Derived.JoinedTies
import Derived.KernelRfl
namespace Go.Proofs.YtdnpljljjnjmdaaDoor
/- THE CELL 'sum', in the pinned program and in every row, IS THE sha256 OF THE DUMP (.gsa) THAT YtdnpljljjnjmdaaDoorProg.lean LOADS. Nothing in Lean hashes anything: it is a label: what it is worth is what the hold of that sum in a sandbox is worth. -/
noncomputable def Tryd.pinned : Pinned := { name := "ytdnpljljjnjmdaadoor", sum := "ba6f256c28aae08ef76472a714ae626592f3b790476340a6987a3ab739c46b16", checked := Tryd.checked }
namespace Rows
def none {H : Type} : Left H := { results := [], args := [] }

/- WHAT THE LISTED PACKAGE-LEVEL VARIABLES READ AS WHEN THE CALL BEGINS. Each datum BY PROGRAM (the guide's laid-datum.mjs) off the statement by which the dump's own 'gosem.cut.vars' lays the variable. In a bare row this is a premise. The card (YtdnpljljjnjmdaaDoorCards.lean) ties it to the program's text. -/
def laid_demurrage_civil_lengths {H : Type} : DataW H := .agg [.lit (.int .i64 31), .lit (.int .i64 28), .lit (.int .i64 31), .lit (.int .i64 30), .lit (.int .i64 31), .lit (.int .i64 30), .lit (.int .i64 31), .lit (.int .i64 31), .lit (.int .i64 30), .lit (.int .i64 31), .lit (.int .i64 30), .lit (.int .i64 31)]

/-- 'demurragelaw12.RuleTells': WHATEVER THE INPUT: true; the input reads as it did. -/
def ruleTellsSpec : ChangeSpec := { name := "ruleTells", fn := fun _ => fun
  | [d1, d2, d3] => { results := [.lit (.bool true)], args := [d1, d2, d3] }
  | _ => none }
def ruleTellsRow : OpenClaim := { program := "ytdnpljljjnjmdaadoor", sum := "ba6f256c28aae08ef76472a714ae626592f3b790476340a6987a3ab739c46b16", func := "demurrage/demurragelaw12.RuleTells", spec := "ruleTells", unfollowed := true, recurses := true, named := ["demurrage/civil.lengths"], apart := false, laid := [("demurrage/civil.lengths", laid_demurrage_civil_lengths)] }
def RuleTellsSaid : Prop := ruleTellsRow.holds Tryd.pinned (OpenSpec.ofChange ruleTellsSpec)

/-- ITS FALSE NEIGHBOUR: 'it returns false'. Refute it at one input. -/
def ruleTellsWrong : ChangeSpec := { name := "ruleTells", fn := fun _ => fun
  | [d1, d2, d3] => { results := [.lit (.bool false)], args := [d1, d2, d3] }
  | _ => none }
def RuleTellsWrongFalsely : Prop := ruleTellsRow.holds Tryd.pinned (OpenSpec.ofChange ruleTellsWrong)

/-- 'demurragelaw12.RuleShifts': WHATEVER THE INPUT: true; the input reads as it did. -/
def ruleShiftsSpec : ChangeSpec := { name := "ruleShifts", fn := fun _ => fun
  | [d1, d2] => { results := [.lit (.bool true)], args := [d1, d2] }
  | _ => none }
def ruleShiftsRow : OpenClaim := { program := "ytdnpljljjnjmdaadoor", sum := "ba6f256c28aae08ef76472a714ae626592f3b790476340a6987a3ab739c46b16", func := "demurrage/demurragelaw12.RuleShifts", spec := "ruleShifts", unfollowed := true, recurses := true, named := ["demurrage/civil.lengths"], apart := false, laid := [("demurrage/civil.lengths", laid_demurrage_civil_lengths)] }
def RuleShiftsSaid : Prop := ruleShiftsRow.holds Tryd.pinned (OpenSpec.ofChange ruleShiftsSpec)

/-- ITS FALSE NEIGHBOUR: 'it returns false'. Refute it at one input. -/
def ruleShiftsWrong : ChangeSpec := { name := "ruleShifts", fn := fun _ => fun
  | [d1, d2] => { results := [.lit (.bool false)], args := [d1, d2] }
  | _ => none }
def RuleShiftsWrongFalsely : Prop := ruleShiftsRow.holds Tryd.pinned (OpenSpec.ofChange ruleShiftsWrong)

/-- 'demurragelaw12.RuleDays': WHATEVER THE INPUT: true; the input reads as it did. -/
def ruleDaysSpec : ChangeSpec := { name := "ruleDays", fn := fun _ => fun
  | [d1, d2] => { results := [.lit (.bool true)], args := [d1, d2] }
  | _ => none }
def ruleDaysRow : OpenClaim := { program := "ytdnpljljjnjmdaadoor", sum := "ba6f256c28aae08ef76472a714ae626592f3b790476340a6987a3ab739c46b16", func := "demurrage/demurragelaw12.RuleDays", spec := "ruleDays", unfollowed := true, recurses := true, named := ["demurrage/civil.lengths"], apart := false, laid := [("demurrage/civil.lengths", laid_demurrage_civil_lengths)] }
def RuleDaysSaid : Prop := ruleDaysRow.holds Tryd.pinned (OpenSpec.ofChange ruleDaysSpec)

/-- ITS FALSE NEIGHBOUR: 'it returns false'. Refute it at one input. -/
def ruleDaysWrong : ChangeSpec := { name := "ruleDays", fn := fun _ => fun
  | [d1, d2] => { results := [.lit (.bool false)], args := [d1, d2] }
  | _ => none }
def RuleDaysWrongFalsely : Prop := ruleDaysRow.holds Tryd.pinned (OpenSpec.ofChange ruleDaysWrong)

/-- 'demurragelaw12.RuleMany': WHATEVER THE INPUT: true; the input reads as it did. -/
def ruleManySpec : ChangeSpec := { name := "ruleMany", fn := fun _ => fun
  | [d1, d2] => { results := [.lit (.bool true)], args := [d1, d2] }
  | _ => none }
def ruleManyRow : OpenClaim := { program := "ytdnpljljjnjmdaadoor", sum := "ba6f256c28aae08ef76472a714ae626592f3b790476340a6987a3ab739c46b16", func := "demurrage/demurragelaw12.RuleMany", spec := "ruleMany", unfollowed := true, recurses := true, named := ["demurrage/civil.lengths"], apart := false, laid := [("demurrage/civil.lengths", laid_demurrage_civil_lengths)] }
def RuleManySaid : Prop := ruleManyRow.holds Tryd.pinned (OpenSpec.ofChange ruleManySpec)

/-- ITS FALSE NEIGHBOUR: 'it returns false'. Refute it at one input. -/
def ruleManyWrong : ChangeSpec := { name := "ruleMany", fn := fun _ => fun
  | [d1, d2] => { results := [.lit (.bool false)], args := [d1, d2] }
  | _ => none }
def RuleManyWrongFalsely : Prop := ruleManyRow.holds Tryd.pinned (OpenSpec.ofChange ruleManyWrong)

/-- 'demurragelaw12.RuleUnused': WHATEVER THE INPUT: true; the input reads as it did. -/
def ruleUnusedSpec : ChangeSpec := { name := "ruleUnused", fn := fun _ => fun
  | [d] => { results := [.lit (.bool true)], args := [d] }
  | _ => none }
def ruleUnusedRow : OpenClaim := { program := "ytdnpljljjnjmdaadoor", sum := "ba6f256c28aae08ef76472a714ae626592f3b790476340a6987a3ab739c46b16", func := "demurrage/demurragelaw12.RuleUnused", spec := "ruleUnused", unfollowed := true, recurses := true, named := ["demurrage/civil.lengths"], apart := false, laid := [("demurrage/civil.lengths", laid_demurrage_civil_lengths)] }
def RuleUnusedSaid : Prop := ruleUnusedRow.holds Tryd.pinned (OpenSpec.ofChange ruleUnusedSpec)

/-- ITS FALSE NEIGHBOUR: 'it returns false'. Refute it at one input. -/
def ruleUnusedWrong : ChangeSpec := { name := "ruleUnused", fn := fun _ => fun
  | [d] => { results := [.lit (.bool false)], args := [d] }
  | _ => none }
def RuleUnusedWrongFalsely : Prop := ruleUnusedRow.holds Tryd.pinned (OpenSpec.ofChange ruleUnusedWrong)

/-- 'demurragelaw12.RuleYears': WHATEVER THE INPUT: true; the input reads as it did. -/
def ruleYearsSpec : ChangeSpec := { name := "ruleYears", fn := fun _ => fun
  | [d] => { results := [.lit (.bool true)], args := [d] }
  | _ => none }
def ruleYearsRow : OpenClaim := { program := "ytdnpljljjnjmdaadoor", sum := "ba6f256c28aae08ef76472a714ae626592f3b790476340a6987a3ab739c46b16", func := "demurrage/demurragelaw12.RuleYears", spec := "ruleYears", unfollowed := true, recurses := true, named := ["demurrage/civil.lengths"], apart := false, laid := [("demurrage/civil.lengths", laid_demurrage_civil_lengths)] }
def RuleYearsSaid : Prop := ruleYearsRow.holds Tryd.pinned (OpenSpec.ofChange ruleYearsSpec)

/-- ITS FALSE NEIGHBOUR: 'it returns false'. Refute it at one input. -/
def ruleYearsWrong : ChangeSpec := { name := "ruleYears", fn := fun _ => fun
  | [d] => { results := [.lit (.bool false)], args := [d] }
  | _ => none }
def RuleYearsWrongFalsely : Prop := ruleYearsRow.holds Tryd.pinned (OpenSpec.ofChange ruleYearsWrong)

/- THE SECOND FORM. 'bulk': how many values and letters a reading holds, each counted each time it is reached (what is shared counts as often as it is met; a slice's spare places count too). A statement '..UptoSaid' is the law's where the arguments, and the package variables that the reading takes, are together of bulk at most 1048576: NARROWER than '..Said'. Prove '..Said' where nothing that the law and all that it calls make is longer than what came in: it says more and counts as full. Else prove '..UptoSaid'. A law counts once. -/
mutual
def uptoBulk {H : Type} : DataW H → Nat
  | .lit (.string bytes) => bytes.length + 1
  | .lit _ => 1
  | .nil => 1
  | .ptr d => uptoBulk d + 1
  | .slice elems spare => uptoBulkAll elems + uptoBulkAll spare + 1
  | .agg parts => uptoBulkAll parts + 1
  | .iface _ d => uptoBulk d + 1
  | .map entries => uptoBulkEntries entries + 1
  | .held _ => 1
def uptoBulkAll {H : Type} : List (DataW H) → Nat
  | [] => 0
  | d :: r => uptoBulk d + uptoBulkAll r
def uptoBulkEntries {H : Type} : List (Lit × DataW H) → Nat
  | [] => 0
  | x :: r => uptoBulkEntry x + uptoBulkEntries r
def uptoBulkEntry {H : Type} : Lit × DataW H → Nat
  | (.string bytes, d) => bytes.length + uptoBulk d + 1
  | (_, d) => uptoBulk d + 1
 end
def uptoSmall : (H : Type) → List (DataW H) → Bool := fun _ ds => decide (uptoBulkAll ds ≤ 1048576)
def OpenSpec.upto (s : _root_.Go.ChangeSpec) : _root_.Go.OpenSpec := { _root_.Go.OpenSpec.ofChange s with cond := some uptoSmall }

/-- 'demurragelaw12.RuleTells', WHERE WHAT IT READS IS OF BULK AT MOST 1048576: true; the input reads as it did. -/
def ruleTellsUptoRow : OpenClaim := { program := "ytdnpljljjnjmdaadoor", sum := "ba6f256c28aae08ef76472a714ae626592f3b790476340a6987a3ab739c46b16", func := "demurrage/demurragelaw12.RuleTells", spec := "ruleTells", unfollowed := true, recurses := true, named := ["demurrage/civil.lengths"], apart := false, laid := [("demurrage/civil.lengths", laid_demurrage_civil_lengths)], narrowed := true }
def RuleTellsUptoSaid : Prop := ruleTellsUptoRow.holds Tryd.pinned (OpenSpec.upto ruleTellsSpec)

/-- 'demurragelaw12.RuleShifts', WHERE WHAT IT READS IS OF BULK AT MOST 1048576: true; the input reads as it did. -/
def ruleShiftsUptoRow : OpenClaim := { program := "ytdnpljljjnjmdaadoor", sum := "ba6f256c28aae08ef76472a714ae626592f3b790476340a6987a3ab739c46b16", func := "demurrage/demurragelaw12.RuleShifts", spec := "ruleShifts", unfollowed := true, recurses := true, named := ["demurrage/civil.lengths"], apart := false, laid := [("demurrage/civil.lengths", laid_demurrage_civil_lengths)], narrowed := true }
def RuleShiftsUptoSaid : Prop := ruleShiftsUptoRow.holds Tryd.pinned (OpenSpec.upto ruleShiftsSpec)

/-- 'demurragelaw12.RuleDays', WHERE WHAT IT READS IS OF BULK AT MOST 1048576: true; the input reads as it did. -/
def ruleDaysUptoRow : OpenClaim := { program := "ytdnpljljjnjmdaadoor", sum := "ba6f256c28aae08ef76472a714ae626592f3b790476340a6987a3ab739c46b16", func := "demurrage/demurragelaw12.RuleDays", spec := "ruleDays", unfollowed := true, recurses := true, named := ["demurrage/civil.lengths"], apart := false, laid := [("demurrage/civil.lengths", laid_demurrage_civil_lengths)], narrowed := true }
def RuleDaysUptoSaid : Prop := ruleDaysUptoRow.holds Tryd.pinned (OpenSpec.upto ruleDaysSpec)

/-- 'demurragelaw12.RuleMany', WHERE WHAT IT READS IS OF BULK AT MOST 1048576: true; the input reads as it did. -/
def ruleManyUptoRow : OpenClaim := { program := "ytdnpljljjnjmdaadoor", sum := "ba6f256c28aae08ef76472a714ae626592f3b790476340a6987a3ab739c46b16", func := "demurrage/demurragelaw12.RuleMany", spec := "ruleMany", unfollowed := true, recurses := true, named := ["demurrage/civil.lengths"], apart := false, laid := [("demurrage/civil.lengths", laid_demurrage_civil_lengths)], narrowed := true }
def RuleManyUptoSaid : Prop := ruleManyUptoRow.holds Tryd.pinned (OpenSpec.upto ruleManySpec)

/-- 'demurragelaw12.RuleUnused', WHERE WHAT IT READS IS OF BULK AT MOST 1048576: true; the input reads as it did. -/
def ruleUnusedUptoRow : OpenClaim := { program := "ytdnpljljjnjmdaadoor", sum := "ba6f256c28aae08ef76472a714ae626592f3b790476340a6987a3ab739c46b16", func := "demurrage/demurragelaw12.RuleUnused", spec := "ruleUnused", unfollowed := true, recurses := true, named := ["demurrage/civil.lengths"], apart := false, laid := [("demurrage/civil.lengths", laid_demurrage_civil_lengths)], narrowed := true }
def RuleUnusedUptoSaid : Prop := ruleUnusedUptoRow.holds Tryd.pinned (OpenSpec.upto ruleUnusedSpec)

/-- 'demurragelaw12.RuleYears', WHERE WHAT IT READS IS OF BULK AT MOST 1048576: true; the input reads as it did. -/
def ruleYearsUptoRow : OpenClaim := { program := "ytdnpljljjnjmdaadoor", sum := "ba6f256c28aae08ef76472a714ae626592f3b790476340a6987a3ab739c46b16", func := "demurrage/demurragelaw12.RuleYears", spec := "ruleYears", unfollowed := true, recurses := true, named := ["demurrage/civil.lengths"], apart := false, laid := [("demurrage/civil.lengths", laid_demurrage_civil_lengths)], narrowed := true }
def RuleYearsUptoSaid : Prop := ruleYearsUptoRow.holds Tryd.pinned (OpenSpec.upto ruleYearsSpec)

end Rows
end Go.Proofs.YtdnpljljjnjmdaaDoor
