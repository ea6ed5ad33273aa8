/-
  NARROWER THAN 'FOR EVERY INPUT', by the rows' own cells (each row's printed sentence says how): CivilTells: laid · CivilBack: laid · CivilNext: laid · CivilOrder: laid · CivilEras: laid · CivilSpans: laid · CivilMonths: laid.
  DERIVED. THE GIVEN ROWS OF THIS SEAT. 7 by the template 'for every input the law returns true; each argument reads behind the call as it read before'; 0 by the template 'total and deterministic' (their statements: YthnondaheppkiaaDoorTotals.lean).
  GIVEN WITH THE SEED: the statements are not yours to turn. If you find one false, say at which input.
  Laid BY PROGRAM, IN A SANDBOX (cutbox-rows.mjs): the forced cells as the released guide's own fill.sh prints them over the translation 726f192f8c9d010a… (all of the seat's roots in one cut). By AI agents, Wed Nov 11 2026. No macro, syntax, notation, axiom, sorry.
-/
import Derived.Test.YthnondaheppkiaaDoorChecked
import GoSem.Claim
import GoSem.ClaimJoined
import GoSem.ClaimMapViews
import Derived.JoinedTies
import Derived.KernelRfl
namespace Go.Proofs.YthnondaheppkiaaDoor
/- THE CELL 'sum', in the pinned program and in every row, IS THE sha256 OF THE DUMP (.gsa) THAT YthnondaheppkiaaDoorProg.lean LOADS. Nothing in Lean hashes anything: it is a label: what it is worth is what the hold of that sum in a sandbox is worth. -/
noncomputable def Tryd.pinned : Pinned := { name := "ythnondaheppkiaadoor", sum := "726f192f8c9d010ac74e3e6ec67efbdff8c26f36434bf880b31f6a9601255763", checked := Tryd.checked }
namespace Rows
def none {H : Type} : Left H := { results := [], args := [] }

/- WHAT THE LISTED PACKAGE-LEVEL VARIABLES READ AS WHEN THE CALL BEGINS. Each datum BY PROGRAM (the guide's laid-datum.mjs) off the statement by which the dump's own 'gosem.cut.vars' lays the variable. In a bare row this is a premise. The card (YthnondaheppkiaaDoorCards.lean) ties it to the program's text. -/
def laid_demurrage_civil_lengths {H : Type} : DataW H := .agg [.lit (.int .i64 31), .lit (.int .i64 28), .lit (.int .i64 31), .lit (.int .i64 30), .lit (.int .i64 31), .lit (.int .i64 30), .lit (.int .i64 31), .lit (.int .i64 31), .lit (.int .i64 30), .lit (.int .i64 31), .lit (.int .i64 30), .lit (.int .i64 31)]

/-- 'demurragelaw04.CivilTells': WHATEVER THE INPUT: true; the input reads as it did. -/
def civilTellsSpec : ChangeSpec := { name := "civilTells", fn := fun _ => fun
  | [d1, d2] => { results := [.lit (.bool true)], args := [d1, d2] }
  | _ => none }
def civilTellsRow : OpenClaim := { program := "ythnondaheppkiaadoor", sum := "726f192f8c9d010ac74e3e6ec67efbdff8c26f36434bf880b31f6a9601255763", func := "demurrage/demurragelaw04.CivilTells", spec := "civilTells", named := ["demurrage/civil.lengths"], apart := false, laid := [("demurrage/civil.lengths", laid_demurrage_civil_lengths)] }
def CivilTellsSaid : Prop := civilTellsRow.holds Tryd.pinned (OpenSpec.ofChange civilTellsSpec)

/-- ITS FALSE NEIGHBOUR: 'it returns false'. Refute it at one input. -/
def civilTellsWrong : ChangeSpec := { name := "civilTells", fn := fun _ => fun
  | [d1, d2] => { results := [.lit (.bool false)], args := [d1, d2] }
  | _ => none }
def CivilTellsWrongFalsely : Prop := civilTellsRow.holds Tryd.pinned (OpenSpec.ofChange civilTellsWrong)

/-- 'demurragelaw04.CivilBack': WHATEVER THE INPUT: true; the input reads as it did. -/
def civilBackSpec : ChangeSpec := { name := "civilBack", fn := fun _ => fun
  | [d1, d2] => { results := [.lit (.bool true)], args := [d1, d2] }
  | _ => none }
def civilBackRow : OpenClaim := { program := "ythnondaheppkiaadoor", sum := "726f192f8c9d010ac74e3e6ec67efbdff8c26f36434bf880b31f6a9601255763", func := "demurrage/demurragelaw04.CivilBack", spec := "civilBack", named := ["demurrage/civil.lengths"], apart := false, laid := [("demurrage/civil.lengths", laid_demurrage_civil_lengths)] }
def CivilBackSaid : Prop := civilBackRow.holds Tryd.pinned (OpenSpec.ofChange civilBackSpec)

/-- ITS FALSE NEIGHBOUR: 'it returns false'. Refute it at one input. -/
def civilBackWrong : ChangeSpec := { name := "civilBack", fn := fun _ => fun
  | [d1, d2] => { results := [.lit (.bool false)], args := [d1, d2] }
  | _ => none }
def CivilBackWrongFalsely : Prop := civilBackRow.holds Tryd.pinned (OpenSpec.ofChange civilBackWrong)

/-- 'demurragelaw04.CivilNext': WHATEVER THE INPUT: true; the input reads as it did. -/
def civilNextSpec : ChangeSpec := { name := "civilNext", fn := fun _ => fun
  | [d] => { results := [.lit (.bool true)], args := [d] }
  | _ => none }
def civilNextRow : OpenClaim := { program := "ythnondaheppkiaadoor", sum := "726f192f8c9d010ac74e3e6ec67efbdff8c26f36434bf880b31f6a9601255763", func := "demurrage/demurragelaw04.CivilNext", spec := "civilNext", named := ["demurrage/civil.lengths"], apart := false, laid := [("demurrage/civil.lengths", laid_demurrage_civil_lengths)] }
def CivilNextSaid : Prop := civilNextRow.holds Tryd.pinned (OpenSpec.ofChange civilNextSpec)

/-- ITS FALSE NEIGHBOUR: 'it returns false'. Refute it at one input. -/
def civilNextWrong : ChangeSpec := { name := "civilNext", fn := fun _ => fun
  | [d] => { results := [.lit (.bool false)], args := [d] }
  | _ => none }
def CivilNextWrongFalsely : Prop := civilNextRow.holds Tryd.pinned (OpenSpec.ofChange civilNextWrong)

/-- 'demurragelaw04.CivilOrder': WHATEVER THE INPUT: true; the input reads as it did. -/
def civilOrderSpec : ChangeSpec := { name := "civilOrder", fn := fun _ => fun
  | [d1, d2] => { results := [.lit (.bool true)], args := [d1, d2] }
  | _ => none }
def civilOrderRow : OpenClaim := { program := "ythnondaheppkiaadoor", sum := "726f192f8c9d010ac74e3e6ec67efbdff8c26f36434bf880b31f6a9601255763", func := "demurrage/demurragelaw04.CivilOrder", spec := "civilOrder", named := ["demurrage/civil.lengths"], apart := false, laid := [("demurrage/civil.lengths", laid_demurrage_civil_lengths)] }
def CivilOrderSaid : Prop := civilOrderRow.holds Tryd.pinned (OpenSpec.ofChange civilOrderSpec)

/-- ITS FALSE NEIGHBOUR: 'it returns false'. Refute it at one input. -/
def civilOrderWrong : ChangeSpec := { name := "civilOrder", fn := fun _ => fun
  | [d1, d2] => { results := [.lit (.bool false)], args := [d1, d2] }
  | _ => none }
def CivilOrderWrongFalsely : Prop := civilOrderRow.holds Tryd.pinned (OpenSpec.ofChange civilOrderWrong)

/-- 'demurragelaw04.CivilEras': WHATEVER THE INPUT: true; the input reads as it did. -/
def civilErasSpec : ChangeSpec := { name := "civilEras", fn := fun _ => fun
  | [d] => { results := [.lit (.bool true)], args := [d] }
  | _ => none }
def civilErasRow : OpenClaim := { program := "ythnondaheppkiaadoor", sum := "726f192f8c9d010ac74e3e6ec67efbdff8c26f36434bf880b31f6a9601255763", func := "demurrage/demurragelaw04.CivilEras", spec := "civilEras", named := ["demurrage/civil.lengths"], apart := false, laid := [("demurrage/civil.lengths", laid_demurrage_civil_lengths)] }
def CivilErasSaid : Prop := civilErasRow.holds Tryd.pinned (OpenSpec.ofChange civilErasSpec)

/-- ITS FALSE NEIGHBOUR: 'it returns false'. Refute it at one input. -/
def civilErasWrong : ChangeSpec := { name := "civilEras", fn := fun _ => fun
  | [d] => { results := [.lit (.bool false)], args := [d] }
  | _ => none }
def CivilErasWrongFalsely : Prop := civilErasRow.holds Tryd.pinned (OpenSpec.ofChange civilErasWrong)

/-- 'demurragelaw04.CivilSpans': WHATEVER THE INPUT: true; the input reads as it did. -/
def civilSpansSpec : ChangeSpec := { name := "civilSpans", fn := fun _ => fun
  | [d1, d2] => { results := [.lit (.bool true)], args := [d1, d2] }
  | _ => none }
def civilSpansRow : OpenClaim := { program := "ythnondaheppkiaadoor", sum := "726f192f8c9d010ac74e3e6ec67efbdff8c26f36434bf880b31f6a9601255763", func := "demurrage/demurragelaw04.CivilSpans", spec := "civilSpans", named := ["demurrage/civil.lengths"], apart := false, laid := [("demurrage/civil.lengths", laid_demurrage_civil_lengths)] }
def CivilSpansSaid : Prop := civilSpansRow.holds Tryd.pinned (OpenSpec.ofChange civilSpansSpec)

/-- ITS FALSE NEIGHBOUR: 'it returns false'. Refute it at one input. -/
def civilSpansWrong : ChangeSpec := { name := "civilSpans", fn := fun _ => fun
  | [d1, d2] => { results := [.lit (.bool false)], args := [d1, d2] }
  | _ => none }
def CivilSpansWrongFalsely : Prop := civilSpansRow.holds Tryd.pinned (OpenSpec.ofChange civilSpansWrong)

/-- 'demurragelaw04.CivilMonths': WHATEVER THE INPUT: true; the input reads as it did. -/
def civilMonthsSpec : ChangeSpec := { name := "civilMonths", fn := fun _ => fun
  | [d1, d2, d3] => { results := [.lit (.bool true)], args := [d1, d2, d3] }
  | _ => none }
def civilMonthsRow : OpenClaim := { program := "ythnondaheppkiaadoor", sum := "726f192f8c9d010ac74e3e6ec67efbdff8c26f36434bf880b31f6a9601255763", func := "demurrage/demurragelaw04.CivilMonths", spec := "civilMonths", named := ["demurrage/civil.lengths"], apart := false, laid := [("demurrage/civil.lengths", laid_demurrage_civil_lengths)] }
def CivilMonthsSaid : Prop := civilMonthsRow.holds Tryd.pinned (OpenSpec.ofChange civilMonthsSpec)

/-- ITS FALSE NEIGHBOUR: 'it returns false'. Refute it at one input. -/
def civilMonthsWrong : ChangeSpec := { name := "civilMonths", fn := fun _ => fun
  | [d1, d2, d3] => { results := [.lit (.bool false)], args := [d1, d2, d3] }
  | _ => none }
def CivilMonthsWrongFalsely : Prop := civilMonthsRow.holds Tryd.pinned (OpenSpec.ofChange civilMonthsWrong)

/- THE SECOND FORM. 'bulk': how many values and letters a reading holds, each counted each time it is reached (what is shared counts as often as it is met; a slice's spare places count too). A statement '..UptoSaid' is the law's where the arguments, and the package variables that the reading takes, are together of bulk at most 1048576: NARROWER than '..Said'. Prove '..Said' where nothing that the law and all that it calls make is longer than what came in: it says more and counts as full. Else prove '..UptoSaid'. A law counts once. -/
mutual
def uptoBulk {H : Type} : DataW H → Nat
  | .lit (.string bytes) => bytes.length + 1
  | .lit _ => 1
  | .nil => 1
  | .ptr d => uptoBulk d + 1
  | .slice elems spare => uptoBulkAll elems + uptoBulkAll spare + 1
  | .agg parts => uptoBulkAll parts + 1
  | .iface _ d => uptoBulk d + 1
  | .map entries => uptoBulkEntries entries + 1
  | .held _ => 1
def uptoBulkAll {H : Type} : List (DataW H) → Nat
  | [] => 0
  | d :: r => uptoBulk d + uptoBulkAll r
def uptoBulkEntries {H : Type} : List (Lit × DataW H) → Nat
  | [] => 0
  | x :: r => uptoBulkEntry x + uptoBulkEntries r
def uptoBulkEntry {H : Type} : Lit × DataW H → Nat
  | (.string bytes, d) => bytes.length + uptoBulk d + 1
  | (_, d) => uptoBulk d + 1
 end
def uptoSmall : (H : Type) → List (DataW H) → Bool := fun _ ds => decide (uptoBulkAll ds ≤ 1048576)
def OpenSpec.upto (s : _root_.Go.ChangeSpec) : _root_.Go.OpenSpec := { _root_.Go.OpenSpec.ofChange s with cond := some uptoSmall }

/-- 'demurragelaw04.CivilTells', WHERE WHAT IT READS IS OF BULK AT MOST 1048576: true; the input reads as it did. -/
def civilTellsUptoRow : OpenClaim := { program := "ythnondaheppkiaadoor", sum := "726f192f8c9d010ac74e3e6ec67efbdff8c26f36434bf880b31f6a9601255763", func := "demurrage/demurragelaw04.CivilTells", spec := "civilTells", named := ["demurrage/civil.lengths"], apart := false, laid := [("demurrage/civil.lengths", laid_demurrage_civil_lengths)], narrowed := true }
def CivilTellsUptoSaid : Prop := civilTellsUptoRow.holds Tryd.pinned (OpenSpec.upto civilTellsSpec)

/-- 'demurragelaw04.CivilBack', WHERE WHAT IT READS IS OF BULK AT MOST 1048576: true; the input reads as it did. -/
def civilBackUptoRow : OpenClaim := { program := "ythnondaheppkiaadoor", sum := "726f192f8c9d010ac74e3e6ec67efbdff8c26f36434bf880b31f6a9601255763", func := "demurrage/demurragelaw04.CivilBack", spec := "civilBack", named := ["demurrage/civil.lengths"], apart := false, laid := [("demurrage/civil.lengths", laid_demurrage_civil_lengths)], narrowed := true }
def CivilBackUptoSaid : Prop := civilBackUptoRow.holds Tryd.pinned (OpenSpec.upto civilBackSpec)

/-- 'demurragelaw04.CivilNext', WHERE WHAT IT READS IS OF BULK AT MOST 1048576: true; the input reads as it did. -/
def civilNextUptoRow : OpenClaim := { program := "ythnondaheppkiaadoor", sum := "726f192f8c9d010ac74e3e6ec67efbdff8c26f36434bf880b31f6a9601255763", func := "demurrage/demurragelaw04.CivilNext", spec := "civilNext", named := ["demurrage/civil.lengths"], apart := false, laid := [("demurrage/civil.lengths", laid_demurrage_civil_lengths)], narrowed := true }
def CivilNextUptoSaid : Prop := civilNextUptoRow.holds Tryd.pinned (OpenSpec.upto civilNextSpec)

/-- 'demurragelaw04.CivilOrder', WHERE WHAT IT READS IS OF BULK AT MOST 1048576: true; the input reads as it did. -/
def civilOrderUptoRow : OpenClaim := { program := "ythnondaheppkiaadoor", sum := "726f192f8c9d010ac74e3e6ec67efbdff8c26f36434bf880b31f6a9601255763", func := "demurrage/demurragelaw04.CivilOrder", spec := "civilOrder", named := ["demurrage/civil.lengths"], apart := false, laid := [("demurrage/civil.lengths", laid_demurrage_civil_lengths)], narrowed := true }
def CivilOrderUptoSaid : Prop := civilOrderUptoRow.holds Tryd.pinned (OpenSpec.upto civilOrderSpec)

/-- 'demurragelaw04.CivilEras', WHERE WHAT IT READS IS OF BULK AT MOST 1048576: true; the input reads as it did. -/
def civilErasUptoRow : OpenClaim := { program := "ythnondaheppkiaadoor", sum := "726f192f8c9d010ac74e3e6ec67efbdff8c26f36434bf880b31f6a9601255763", func := "demurrage/demurragelaw04.CivilEras", spec := "civilEras", named := ["demurrage/civil.lengths"], apart := false, laid := [("demurrage/civil.lengths", laid_demurrage_civil_lengths)], narrowed := true }
def CivilErasUptoSaid : Prop := civilErasUptoRow.holds Tryd.pinned (OpenSpec.upto civilErasSpec)

/-- 'demurragelaw04.CivilSpans', WHERE WHAT IT READS IS OF BULK AT MOST 1048576: true; the input reads as it did. -/
def civilSpansUptoRow : OpenClaim := { program := "ythnondaheppkiaadoor", sum := "726f192f8c9d010ac74e3e6ec67efbdff8c26f36434bf880b31f6a9601255763", func := "demurrage/demurragelaw04.CivilSpans", spec := "civilSpans", named := ["demurrage/civil.lengths"], apart := false, laid := [("demurrage/civil.lengths", laid_demurrage_civil_lengths)], narrowed := true }
def CivilSpansUptoSaid : Prop := civilSpansUptoRow.holds Tryd.pinned (OpenSpec.upto civilSpansSpec)

/-- 'demurragelaw04.CivilMonths', WHERE WHAT IT READS IS OF BULK AT MOST 1048576: true; the input reads as it did. -/
def civilMonthsUptoRow : OpenClaim := { program := "ythnondaheppkiaadoor", sum := "726f192f8c9d010ac74e3e6ec67efbdff8c26f36434bf880b31f6a9601255763", func := "demurrage/demurragelaw04.CivilMonths", spec := "civilMonths", named := ["demurrage/civil.lengths"], apart := false, laid := [("demurrage/civil.lengths", laid_demurrage_civil_lengths)], narrowed := true }
def CivilMonthsUptoSaid : Prop := civilMonthsUptoRow.holds Tryd.pinned (OpenSpec.upto civilMonthsSpec)

end Rows
end Go.Proofs.YthnondaheppkiaaDoor
