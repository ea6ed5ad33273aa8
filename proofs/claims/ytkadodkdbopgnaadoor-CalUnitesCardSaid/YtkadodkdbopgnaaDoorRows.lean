/-
  NARROWER THAN 'FOR EVERY INPUT', by the rows' own cells (each row's printed sentence says how): CalTells: laid · CalUnites: laid · CalBoth: laid · CalSums: laid · CalWeeks: laid · CalRules: laid · CalOrder: laid · CalWhole: laid.
  DERIVED. THE GIVEN ROWS OF THIS SEAT. 8 by the template 'for every input the law returns true; each argument reads behind the call as it read before'; 0 by the template 'total and deterministic' (their statements: YtkadodkdbopgnaaDoorTotals.lean).
  GIVEN WITH THE SEED: the statements are not yours to turn. If you find one false, say at which input.
  Laid BY PROGRAM, IN A SANDBOX (cutbox-rows.mjs): the forced cells as the released guide's own fill.sh prints them over the translation f456357eb55397a4… (all of the seat's roots in one cut). By AI agents, Wed Nov 11 2026. No macro, syntax, notation, axiom, sorry.
-/
import Derived.Test.YtkadodkdbopgnaaDoorChecked
import GoSem.Claim
import GoSem.ClaimJoined
import GoSem.ClaimMapViews
import Derived.JoinedTies
import Derived.KernelRfl
namespace Go.Proofs.YtkadodkdbopgnaaDoor
/- THE CELL 'sum', in the pinned program and in every row, IS THE sha256 OF THE DUMP (.gsa) THAT YtkadodkdbopgnaaDoorProg.lean LOADS. Nothing in Lean hashes anything: it is a label: what it is worth is what the hold of that sum in a sandbox is worth. -/
noncomputable def Tryd.pinned : Pinned := { name := "ytkadodkdbopgnaadoor", sum := "f456357eb55397a4e481a842f86e657e3e246a842682377fe8ad89ccced1d833", checked := Tryd.checked }
namespace Rows
def none {H : Type} : Left H := { results := [], args := [] }

/- WHAT THE LISTED PACKAGE-LEVEL VARIABLES READ AS WHEN THE CALL BEGINS. Each datum BY PROGRAM (the guide's laid-datum.mjs) off the statement by which the dump's own 'gosem.cut.vars' lays the variable. In a bare row this is a premise. The card (YtkadodkdbopgnaaDoorCards.lean) ties it to the program's text. -/
def laid_demurrage_civil_lengths {H : Type} : DataW H := .agg [.lit (.int .i64 31), .lit (.int .i64 28), .lit (.int .i64 31), .lit (.int .i64 30), .lit (.int .i64 31), .lit (.int .i64 30), .lit (.int .i64 31), .lit (.int .i64 31), .lit (.int .i64 30), .lit (.int .i64 31), .lit (.int .i64 30), .lit (.int .i64 31)]
def laid_demurrage_cal_wholeWeek {H : Type} : DataW H := .agg [.lit (.bool true), .lit (.bool true), .lit (.bool true), .lit (.bool true), .lit (.bool true), .lit (.bool true), .lit (.bool true)]

/-- 'demurragelaw13.CalTells': WHATEVER THE INPUT: true; the input reads as it did. -/
def calTellsSpec : ChangeSpec := { name := "calTells", fn := fun _ => fun
  | [d1, d2] => { results := [.lit (.bool true)], args := [d1, d2] }
  | _ => none }
def calTellsRow : OpenClaim := { program := "ytkadodkdbopgnaadoor", sum := "f456357eb55397a4e481a842f86e657e3e246a842682377fe8ad89ccced1d833", func := "demurrage/demurragelaw13.CalTells", spec := "calTells", unfollowed := true, recurses := true, named := ["demurrage/civil.lengths", "demurrage/cal.wholeWeek"], apart := false, laid := [("demurrage/civil.lengths", laid_demurrage_civil_lengths), ("demurrage/cal.wholeWeek", laid_demurrage_cal_wholeWeek)] }
def CalTellsSaid : Prop := calTellsRow.holds Tryd.pinned (OpenSpec.ofChange calTellsSpec)

/-- ITS FALSE NEIGHBOUR: 'it returns false'. Refute it at one input. -/
def calTellsWrong : ChangeSpec := { name := "calTells", fn := fun _ => fun
  | [d1, d2] => { results := [.lit (.bool false)], args := [d1, d2] }
  | _ => none }
def CalTellsWrongFalsely : Prop := calTellsRow.holds Tryd.pinned (OpenSpec.ofChange calTellsWrong)

/-- 'demurragelaw13.CalUnites': WHATEVER THE INPUT: true; the input reads as it did. -/
def calUnitesSpec : ChangeSpec := { name := "calUnites", fn := fun _ => fun
  | [d] => { results := [.lit (.bool true)], args := [d] }
  | _ => none }
def calUnitesRow : OpenClaim := { program := "ytkadodkdbopgnaadoor", sum := "f456357eb55397a4e481a842f86e657e3e246a842682377fe8ad89ccced1d833", func := "demurrage/demurragelaw13.CalUnites", spec := "calUnites", unfollowed := true, recurses := true, named := ["demurrage/civil.lengths", "demurrage/cal.wholeWeek"], apart := false, laid := [("demurrage/civil.lengths", laid_demurrage_civil_lengths), ("demurrage/cal.wholeWeek", laid_demurrage_cal_wholeWeek)] }
def CalUnitesSaid : Prop := calUnitesRow.holds Tryd.pinned (OpenSpec.ofChange calUnitesSpec)

/-- ITS FALSE NEIGHBOUR: 'it returns false'. Refute it at one input. -/
def calUnitesWrong : ChangeSpec := { name := "calUnites", fn := fun _ => fun
  | [d] => { results := [.lit (.bool false)], args := [d] }
  | _ => none }
def CalUnitesWrongFalsely : Prop := calUnitesRow.holds Tryd.pinned (OpenSpec.ofChange calUnitesWrong)

/-- 'demurragelaw13.CalBoth': WHATEVER THE INPUT: true; the input reads as it did. -/
def calBothSpec : ChangeSpec := { name := "calBoth", fn := fun _ => fun
  | [d1, d2, d3] => { results := [.lit (.bool true)], args := [d1, d2, d3] }
  | _ => none }
def calBothRow : OpenClaim := { program := "ytkadodkdbopgnaadoor", sum := "f456357eb55397a4e481a842f86e657e3e246a842682377fe8ad89ccced1d833", func := "demurrage/demurragelaw13.CalBoth", spec := "calBoth", unfollowed := true, recurses := true, named := ["demurrage/civil.lengths", "demurrage/cal.wholeWeek"], apart := false, laid := [("demurrage/civil.lengths", laid_demurrage_civil_lengths), ("demurrage/cal.wholeWeek", laid_demurrage_cal_wholeWeek)] }
def CalBothSaid : Prop := calBothRow.holds Tryd.pinned (OpenSpec.ofChange calBothSpec)

/-- ITS FALSE NEIGHBOUR: 'it returns false'. Refute it at one input. -/
def calBothWrong : ChangeSpec := { name := "calBoth", fn := fun _ => fun
  | [d1, d2, d3] => { results := [.lit (.bool false)], args := [d1, d2, d3] }
  | _ => none }
def CalBothWrongFalsely : Prop := calBothRow.holds Tryd.pinned (OpenSpec.ofChange calBothWrong)

/-- 'demurragelaw13.CalSums': WHATEVER THE INPUT: true; the input reads as it did. -/
def calSumsSpec : ChangeSpec := { name := "calSums", fn := fun _ => fun
  | [d] => { results := [.lit (.bool true)], args := [d] }
  | _ => none }
def calSumsRow : OpenClaim := { program := "ytkadodkdbopgnaadoor", sum := "f456357eb55397a4e481a842f86e657e3e246a842682377fe8ad89ccced1d833", func := "demurrage/demurragelaw13.CalSums", spec := "calSums", unfollowed := true, recurses := true, named := ["demurrage/civil.lengths", "demurrage/cal.wholeWeek"], apart := false, laid := [("demurrage/civil.lengths", laid_demurrage_civil_lengths), ("demurrage/cal.wholeWeek", laid_demurrage_cal_wholeWeek)] }
def CalSumsSaid : Prop := calSumsRow.holds Tryd.pinned (OpenSpec.ofChange calSumsSpec)

/-- ITS FALSE NEIGHBOUR: 'it returns false'. Refute it at one input. -/
def calSumsWrong : ChangeSpec := { name := "calSums", fn := fun _ => fun
  | [d] => { results := [.lit (.bool false)], args := [d] }
  | _ => none }
def CalSumsWrongFalsely : Prop := calSumsRow.holds Tryd.pinned (OpenSpec.ofChange calSumsWrong)

/-- 'demurragelaw13.CalWeeks': WHATEVER THE INPUT: true; the input reads as it did. -/
def calWeeksSpec : ChangeSpec := { name := "calWeeks", fn := fun _ => fun
  | [d1, d2, d3] => { results := [.lit (.bool true)], args := [d1, d2, d3] }
  | _ => none }
def calWeeksRow : OpenClaim := { program := "ytkadodkdbopgnaadoor", sum := "f456357eb55397a4e481a842f86e657e3e246a842682377fe8ad89ccced1d833", func := "demurrage/demurragelaw13.CalWeeks", spec := "calWeeks", unfollowed := true, recurses := true, named := ["demurrage/civil.lengths", "demurrage/cal.wholeWeek"], apart := false, laid := [("demurrage/civil.lengths", laid_demurrage_civil_lengths), ("demurrage/cal.wholeWeek", laid_demurrage_cal_wholeWeek)] }
def CalWeeksSaid : Prop := calWeeksRow.holds Tryd.pinned (OpenSpec.ofChange calWeeksSpec)

/-- ITS FALSE NEIGHBOUR: 'it returns false'. Refute it at one input. -/
def calWeeksWrong : ChangeSpec := { name := "calWeeks", fn := fun _ => fun
  | [d1, d2, d3] => { results := [.lit (.bool false)], args := [d1, d2, d3] }
  | _ => none }
def CalWeeksWrongFalsely : Prop := calWeeksRow.holds Tryd.pinned (OpenSpec.ofChange calWeeksWrong)

/-- 'demurragelaw13.CalRules': WHATEVER THE INPUT: true; the input reads as it did. -/
def calRulesSpec : ChangeSpec := { name := "calRules", fn := fun _ => fun
  | [d] => { results := [.lit (.bool true)], args := [d] }
  | _ => none }
def calRulesRow : OpenClaim := { program := "ytkadodkdbopgnaadoor", sum := "f456357eb55397a4e481a842f86e657e3e246a842682377fe8ad89ccced1d833", func := "demurrage/demurragelaw13.CalRules", spec := "calRules", unfollowed := true, recurses := true, named := ["demurrage/civil.lengths", "demurrage/cal.wholeWeek"], apart := false, laid := [("demurrage/civil.lengths", laid_demurrage_civil_lengths), ("demurrage/cal.wholeWeek", laid_demurrage_cal_wholeWeek)] }
def CalRulesSaid : Prop := calRulesRow.holds Tryd.pinned (OpenSpec.ofChange calRulesSpec)

/-- ITS FALSE NEIGHBOUR: 'it returns false'. Refute it at one input. -/
def calRulesWrong : ChangeSpec := { name := "calRules", fn := fun _ => fun
  | [d] => { results := [.lit (.bool false)], args := [d] }
  | _ => none }
def CalRulesWrongFalsely : Prop := calRulesRow.holds Tryd.pinned (OpenSpec.ofChange calRulesWrong)

/-- 'demurragelaw13.CalOrder': WHATEVER THE INPUT: true; the input reads as it did. -/
def calOrderSpec : ChangeSpec := { name := "calOrder", fn := fun _ => fun
  | [d] => { results := [.lit (.bool true)], args := [d] }
  | _ => none }
def calOrderRow : OpenClaim := { program := "ytkadodkdbopgnaadoor", sum := "f456357eb55397a4e481a842f86e657e3e246a842682377fe8ad89ccced1d833", func := "demurrage/demurragelaw13.CalOrder", spec := "calOrder", unfollowed := true, recurses := true, named := ["demurrage/civil.lengths", "demurrage/cal.wholeWeek"], apart := false, laid := [("demurrage/civil.lengths", laid_demurrage_civil_lengths), ("demurrage/cal.wholeWeek", laid_demurrage_cal_wholeWeek)] }
def CalOrderSaid : Prop := calOrderRow.holds Tryd.pinned (OpenSpec.ofChange calOrderSpec)

/-- ITS FALSE NEIGHBOUR: 'it returns false'. Refute it at one input. -/
def calOrderWrong : ChangeSpec := { name := "calOrder", fn := fun _ => fun
  | [d] => { results := [.lit (.bool false)], args := [d] }
  | _ => none }
def CalOrderWrongFalsely : Prop := calOrderRow.holds Tryd.pinned (OpenSpec.ofChange calOrderWrong)

/-- 'demurragelaw13.CalWhole': WHATEVER THE INPUT: true; the input reads as it did. -/
def calWholeSpec : ChangeSpec := { name := "calWhole", fn := fun _ => fun
  | [d] => { results := [.lit (.bool true)], args := [d] }
  | _ => none }
def calWholeRow : OpenClaim := { program := "ytkadodkdbopgnaadoor", sum := "f456357eb55397a4e481a842f86e657e3e246a842682377fe8ad89ccced1d833", func := "demurrage/demurragelaw13.CalWhole", spec := "calWhole", unfollowed := true, recurses := true, named := ["demurrage/civil.lengths", "demurrage/cal.wholeWeek"], apart := false, laid := [("demurrage/civil.lengths", laid_demurrage_civil_lengths), ("demurrage/cal.wholeWeek", laid_demurrage_cal_wholeWeek)] }
def CalWholeSaid : Prop := calWholeRow.holds Tryd.pinned (OpenSpec.ofChange calWholeSpec)

/-- ITS FALSE NEIGHBOUR: 'it returns false'. Refute it at one input. -/
def calWholeWrong : ChangeSpec := { name := "calWhole", fn := fun _ => fun
  | [d] => { results := [.lit (.bool false)], args := [d] }
  | _ => none }
def CalWholeWrongFalsely : Prop := calWholeRow.holds Tryd.pinned (OpenSpec.ofChange calWholeWrong)

/- THE SECOND FORM. 'bulk': how many values and letters a reading holds, each counted each time it is reached (what is shared counts as often as it is met; a slice's spare places count too). A statement '..UptoSaid' is the law's where the arguments, and the package variables that the reading takes, are together of bulk at most 1048576: NARROWER than '..Said'. Prove '..Said' where nothing that the law and all that it calls make is longer than what came in: it says more and counts as full. Else prove '..UptoSaid'. A law counts once. -/
mutual
def uptoBulk {H : Type} : DataW H → Nat
  | .lit (.string bytes) => bytes.length + 1
  | .lit _ => 1
  | .nil => 1
  | .ptr d => uptoBulk d + 1
  | .slice elems spare => uptoBulkAll elems + uptoBulkAll spare + 1
  | .agg parts => uptoBulkAll parts + 1
  | .iface _ d => uptoBulk d + 1
  | .map entries => uptoBulkEntries entries + 1
  | .held _ => 1
def uptoBulkAll {H : Type} : List (DataW H) → Nat
  | [] => 0
  | d :: r => uptoBulk d + uptoBulkAll r
def uptoBulkEntries {H : Type} : List (Lit × DataW H) → Nat
  | [] => 0
  | x :: r => uptoBulkEntry x + uptoBulkEntries r
def uptoBulkEntry {H : Type} : Lit × DataW H → Nat
  | (.string bytes, d) => bytes.length + uptoBulk d + 1
  | (_, d) => uptoBulk d + 1
 end
def uptoSmall : (H : Type) → List (DataW H) → Bool := fun _ ds => decide (uptoBulkAll ds ≤ 1048576)
def OpenSpec.upto (s : _root_.Go.ChangeSpec) : _root_.Go.OpenSpec := { _root_.Go.OpenSpec.ofChange s with cond := some uptoSmall }

/-- 'demurragelaw13.CalTells', WHERE WHAT IT READS IS OF BULK AT MOST 1048576: true; the input reads as it did. -/
def calTellsUptoRow : OpenClaim := { program := "ytkadodkdbopgnaadoor", sum := "f456357eb55397a4e481a842f86e657e3e246a842682377fe8ad89ccced1d833", func := "demurrage/demurragelaw13.CalTells", spec := "calTells", unfollowed := true, recurses := true, named := ["demurrage/civil.lengths", "demurrage/cal.wholeWeek"], apart := false, laid := [("demurrage/civil.lengths", laid_demurrage_civil_lengths), ("demurrage/cal.wholeWeek", laid_demurrage_cal_wholeWeek)], narrowed := true }
def CalTellsUptoSaid : Prop := calTellsUptoRow.holds Tryd.pinned (OpenSpec.upto calTellsSpec)

/-- 'demurragelaw13.CalUnites', WHERE WHAT IT READS IS OF BULK AT MOST 1048576: true; the input reads as it did. -/
def calUnitesUptoRow : OpenClaim := { program := "ytkadodkdbopgnaadoor", sum := "f456357eb55397a4e481a842f86e657e3e246a842682377fe8ad89ccced1d833", func := "demurrage/demurragelaw13.CalUnites", spec := "calUnites", unfollowed := true, recurses := true, named := ["demurrage/civil.lengths", "demurrage/cal.wholeWeek"], apart := false, laid := [("demurrage/civil.lengths", laid_demurrage_civil_lengths), ("demurrage/cal.wholeWeek", laid_demurrage_cal_wholeWeek)], narrowed := true }
def CalUnitesUptoSaid : Prop := calUnitesUptoRow.holds Tryd.pinned (OpenSpec.upto calUnitesSpec)

/-- 'demurragelaw13.CalBoth', WHERE WHAT IT READS IS OF BULK AT MOST 1048576: true; the input reads as it did. -/
def calBothUptoRow : OpenClaim := { program := "ytkadodkdbopgnaadoor", sum := "f456357eb55397a4e481a842f86e657e3e246a842682377fe8ad89ccced1d833", func := "demurrage/demurragelaw13.CalBoth", spec := "calBoth", unfollowed := true, recurses := true, named := ["demurrage/civil.lengths", "demurrage/cal.wholeWeek"], apart := false, laid := [("demurrage/civil.lengths", laid_demurrage_civil_lengths), ("demurrage/cal.wholeWeek", laid_demurrage_cal_wholeWeek)], narrowed := true }
def CalBothUptoSaid : Prop := calBothUptoRow.holds Tryd.pinned (OpenSpec.upto calBothSpec)

/-- 'demurragelaw13.CalSums', WHERE WHAT IT READS IS OF BULK AT MOST 1048576: true; the input reads as it did. -/
def calSumsUptoRow : OpenClaim := { program := "ytkadodkdbopgnaadoor", sum := "f456357eb55397a4e481a842f86e657e3e246a842682377fe8ad89ccced1d833", func := "demurrage/demurragelaw13.CalSums", spec := "calSums", unfollowed := true, recurses := true, named := ["demurrage/civil.lengths", "demurrage/cal.wholeWeek"], apart := false, laid := [("demurrage/civil.lengths", laid_demurrage_civil_lengths), ("demurrage/cal.wholeWeek", laid_demurrage_cal_wholeWeek)], narrowed := true }
def CalSumsUptoSaid : Prop := calSumsUptoRow.holds Tryd.pinned (OpenSpec.upto calSumsSpec)

/-- 'demurragelaw13.CalWeeks', WHERE WHAT IT READS IS OF BULK AT MOST 1048576: true; the input reads as it did. -/
def calWeeksUptoRow : OpenClaim := { program := "ytkadodkdbopgnaadoor", sum := "f456357eb55397a4e481a842f86e657e3e246a842682377fe8ad89ccced1d833", func := "demurrage/demurragelaw13.CalWeeks", spec := "calWeeks", unfollowed := true, recurses := true, named := ["demurrage/civil.lengths", "demurrage/cal.wholeWeek"], apart := false, laid := [("demurrage/civil.lengths", laid_demurrage_civil_lengths), ("demurrage/cal.wholeWeek", laid_demurrage_cal_wholeWeek)], narrowed := true }
def CalWeeksUptoSaid : Prop := calWeeksUptoRow.holds Tryd.pinned (OpenSpec.upto calWeeksSpec)

/-- 'demurragelaw13.CalRules', WHERE WHAT IT READS IS OF BULK AT MOST 1048576: true; the input reads as it did. -/
def calRulesUptoRow : OpenClaim := { program := "ytkadodkdbopgnaadoor", sum := "f456357eb55397a4e481a842f86e657e3e246a842682377fe8ad89ccced1d833", func := "demurrage/demurragelaw13.CalRules", spec := "calRules", unfollowed := true, recurses := true, named := ["demurrage/civil.lengths", "demurrage/cal.wholeWeek"], apart := false, laid := [("demurrage/civil.lengths", laid_demurrage_civil_lengths), ("demurrage/cal.wholeWeek", laid_demurrage_cal_wholeWeek)], narrowed := true }
def CalRulesUptoSaid : Prop := calRulesUptoRow.holds Tryd.pinned (OpenSpec.upto calRulesSpec)

/-- 'demurragelaw13.CalOrder', WHERE WHAT IT READS IS OF BULK AT MOST 1048576: true; the input reads as it did. -/
def calOrderUptoRow : OpenClaim := { program := "ytkadodkdbopgnaadoor", sum := "f456357eb55397a4e481a842f86e657e3e246a842682377fe8ad89ccced1d833", func := "demurrage/demurragelaw13.CalOrder", spec := "calOrder", unfollowed := true, recurses := true, named := ["demurrage/civil.lengths", "demurrage/cal.wholeWeek"], apart := false, laid := [("demurrage/civil.lengths", laid_demurrage_civil_lengths), ("demurrage/cal.wholeWeek", laid_demurrage_cal_wholeWeek)], narrowed := true }
def CalOrderUptoSaid : Prop := calOrderUptoRow.holds Tryd.pinned (OpenSpec.upto calOrderSpec)

/-- 'demurragelaw13.CalWhole', WHERE WHAT IT READS IS OF BULK AT MOST 1048576: true; the input reads as it did. -/
def calWholeUptoRow : OpenClaim := { program := "ytkadodkdbopgnaadoor", sum := "f456357eb55397a4e481a842f86e657e3e246a842682377fe8ad89ccced1d833", func := "demurrage/demurragelaw13.CalWhole", spec := "calWhole", unfollowed := true, recurses := true, named := ["demurrage/civil.lengths", "demurrage/cal.wholeWeek"], apart := false, laid := [("demurrage/civil.lengths", laid_demurrage_civil_lengths), ("demurrage/cal.wholeWeek", laid_demurrage_cal_wholeWeek)], narrowed := true }
def CalWholeUptoSaid : Prop := calWholeUptoRow.holds Tryd.pinned (OpenSpec.upto calWholeSpec)

end Rows
end Go.Proofs.YtkadodkdbopgnaaDoor
