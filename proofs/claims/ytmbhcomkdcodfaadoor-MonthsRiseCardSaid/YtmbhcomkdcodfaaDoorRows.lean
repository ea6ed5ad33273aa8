/-
  NARROWER THAN 'FOR EVERY INPUT', by the rows' own cells (each row's printed sentence says how): MonthsTells: laid · MonthsEnds: laid · MonthsMoves: laid · MonthsBack: laid · MonthsRise: laid · MonthsEras: laid.
  DERIVED. THE GIVEN ROWS OF THIS SEAT. 6 by the template 'for every input the law returns true; each argument reads behind the call as it read before'; 0 by the template 'total and deterministic' (their statements: YtmbhcomkdcodfaaDoorTotals.lean).
  GIVEN WITH THE SEED: the statements are not yours to turn. If you find one false, say at which input.
  Laid BY PROGRAM, IN A SANDBOX (cutbox-rows.mjs): the forced cells as the released guide's own fill.sh prints them over the translation 8fd4ded9a6bbc169… (all of the seat's roots in one cut). By AI agents, Wed Nov 11 2026. No macro, syntax, notation, axiom, sorry.
-/
import Derived.Test.YtmbhcomkdcodfaaDoorChecked
import GoSem.Claim
import GoSem.ClaimJoined
import GoSem.ClaimMapViews
import Derived.JoinedTies
import Derived.KernelRfl
namespace Go.Proofs.YtmbhcomkdcodfaaDoor
/- THE CELL 'sum', in the pinned program and in every row, IS THE sha256 OF THE DUMP (.gsa) THAT YtmbhcomkdcodfaaDoorProg.lean LOADS. Nothing in Lean hashes anything: it is a label: what it is worth is what the hold of that sum in a sandbox is worth. -/
noncomputable def Tryd.pinned : Pinned := { name := "ytmbhcomkdcodfaadoor", sum := "8fd4ded9a6bbc1692c10b6437b070c59e1a552c51b549880f68be7dbebbc4aa6", checked := Tryd.checked }
namespace Rows
def none {H : Type} : Left H := { results := [], args := [] }

/- WHAT THE LISTED PACKAGE-LEVEL VARIABLES READ AS WHEN THE CALL BEGINS. Each datum BY PROGRAM (the guide's laid-datum.mjs) off the statement by which the dump's own 'gosem.cut.vars' lays the variable. In a bare row this is a premise. The card (YtmbhcomkdcodfaaDoorCards.lean) ties it to the program's text. -/
def laid_demurrage_civil_lengths {H : Type} : DataW H := .agg [.lit (.int .i64 31), .lit (.int .i64 28), .lit (.int .i64 31), .lit (.int .i64 30), .lit (.int .i64 31), .lit (.int .i64 30), .lit (.int .i64 31), .lit (.int .i64 31), .lit (.int .i64 30), .lit (.int .i64 31), .lit (.int .i64 30), .lit (.int .i64 31)]

/-- 'demurragelaw05.MonthsTells': WHATEVER THE INPUT: true; the input reads as it did. -/
def monthsTellsSpec : ChangeSpec := { name := "monthsTells", fn := fun _ => fun
  | [d1, d2, d3] => { results := [.lit (.bool true)], args := [d1, d2, d3] }
  | _ => none }
def monthsTellsRow : OpenClaim := { program := "ytmbhcomkdcodfaadoor", sum := "8fd4ded9a6bbc1692c10b6437b070c59e1a552c51b549880f68be7dbebbc4aa6", func := "demurrage/demurragelaw05.MonthsTells", spec := "monthsTells", unfollowed := true, recurses := true, named := ["demurrage/civil.lengths"], apart := false, laid := [("demurrage/civil.lengths", laid_demurrage_civil_lengths)] }
def MonthsTellsSaid : Prop := monthsTellsRow.holds Tryd.pinned (OpenSpec.ofChange monthsTellsSpec)

/-- ITS FALSE NEIGHBOUR: 'it returns false'. Refute it at one input. -/
def monthsTellsWrong : ChangeSpec := { name := "monthsTells", fn := fun _ => fun
  | [d1, d2, d3] => { results := [.lit (.bool false)], args := [d1, d2, d3] }
  | _ => none }
def MonthsTellsWrongFalsely : Prop := monthsTellsRow.holds Tryd.pinned (OpenSpec.ofChange monthsTellsWrong)

/-- 'demurragelaw05.MonthsEnds': WHATEVER THE INPUT: true; the input reads as it did. -/
def monthsEndsSpec : ChangeSpec := { name := "monthsEnds", fn := fun _ => fun
  | [d] => { results := [.lit (.bool true)], args := [d] }
  | _ => none }
def monthsEndsRow : OpenClaim := { program := "ytmbhcomkdcodfaadoor", sum := "8fd4ded9a6bbc1692c10b6437b070c59e1a552c51b549880f68be7dbebbc4aa6", func := "demurrage/demurragelaw05.MonthsEnds", spec := "monthsEnds", unfollowed := true, recurses := true, named := ["demurrage/civil.lengths"], apart := false, laid := [("demurrage/civil.lengths", laid_demurrage_civil_lengths)] }
def MonthsEndsSaid : Prop := monthsEndsRow.holds Tryd.pinned (OpenSpec.ofChange monthsEndsSpec)

/-- ITS FALSE NEIGHBOUR: 'it returns false'. Refute it at one input. -/
def monthsEndsWrong : ChangeSpec := { name := "monthsEnds", fn := fun _ => fun
  | [d] => { results := [.lit (.bool false)], args := [d] }
  | _ => none }
def MonthsEndsWrongFalsely : Prop := monthsEndsRow.holds Tryd.pinned (OpenSpec.ofChange monthsEndsWrong)

/-- 'demurragelaw05.MonthsMoves': WHATEVER THE INPUT: true; the input reads as it did. -/
def monthsMovesSpec : ChangeSpec := { name := "monthsMoves", fn := fun _ => fun
  | [d1, d2, d3] => { results := [.lit (.bool true)], args := [d1, d2, d3] }
  | _ => none }
def monthsMovesRow : OpenClaim := { program := "ytmbhcomkdcodfaadoor", sum := "8fd4ded9a6bbc1692c10b6437b070c59e1a552c51b549880f68be7dbebbc4aa6", func := "demurrage/demurragelaw05.MonthsMoves", spec := "monthsMoves", unfollowed := true, recurses := true, named := ["demurrage/civil.lengths"], apart := false, laid := [("demurrage/civil.lengths", laid_demurrage_civil_lengths)] }
def MonthsMovesSaid : Prop := monthsMovesRow.holds Tryd.pinned (OpenSpec.ofChange monthsMovesSpec)

/-- ITS FALSE NEIGHBOUR: 'it returns false'. Refute it at one input. -/
def monthsMovesWrong : ChangeSpec := { name := "monthsMoves", fn := fun _ => fun
  | [d1, d2, d3] => { results := [.lit (.bool false)], args := [d1, d2, d3] }
  | _ => none }
def MonthsMovesWrongFalsely : Prop := monthsMovesRow.holds Tryd.pinned (OpenSpec.ofChange monthsMovesWrong)

/-- 'demurragelaw05.MonthsBack': WHATEVER THE INPUT: true; the input reads as it did. -/
def monthsBackSpec : ChangeSpec := { name := "monthsBack", fn := fun _ => fun
  | [d1, d2, d3] => { results := [.lit (.bool true)], args := [d1, d2, d3] }
  | _ => none }
def monthsBackRow : OpenClaim := { program := "ytmbhcomkdcodfaadoor", sum := "8fd4ded9a6bbc1692c10b6437b070c59e1a552c51b549880f68be7dbebbc4aa6", func := "demurrage/demurragelaw05.MonthsBack", spec := "monthsBack", unfollowed := true, recurses := true, named := ["demurrage/civil.lengths"], apart := false, laid := [("demurrage/civil.lengths", laid_demurrage_civil_lengths)] }
def MonthsBackSaid : Prop := monthsBackRow.holds Tryd.pinned (OpenSpec.ofChange monthsBackSpec)

/-- ITS FALSE NEIGHBOUR: 'it returns false'. Refute it at one input. -/
def monthsBackWrong : ChangeSpec := { name := "monthsBack", fn := fun _ => fun
  | [d1, d2, d3] => { results := [.lit (.bool false)], args := [d1, d2, d3] }
  | _ => none }
def MonthsBackWrongFalsely : Prop := monthsBackRow.holds Tryd.pinned (OpenSpec.ofChange monthsBackWrong)

/-- 'demurragelaw05.MonthsRise': WHATEVER THE INPUT: true; the input reads as it did. -/
def monthsRiseSpec : ChangeSpec := { name := "monthsRise", fn := fun _ => fun
  | [d] => { results := [.lit (.bool true)], args := [d] }
  | _ => none }
def monthsRiseRow : OpenClaim := { program := "ytmbhcomkdcodfaadoor", sum := "8fd4ded9a6bbc1692c10b6437b070c59e1a552c51b549880f68be7dbebbc4aa6", func := "demurrage/demurragelaw05.MonthsRise", spec := "monthsRise", unfollowed := true, recurses := true, named := ["demurrage/civil.lengths"], apart := false, laid := [("demurrage/civil.lengths", laid_demurrage_civil_lengths)] }
def MonthsRiseSaid : Prop := monthsRiseRow.holds Tryd.pinned (OpenSpec.ofChange monthsRiseSpec)

/-- ITS FALSE NEIGHBOUR: 'it returns false'. Refute it at one input. -/
def monthsRiseWrong : ChangeSpec := { name := "monthsRise", fn := fun _ => fun
  | [d] => { results := [.lit (.bool false)], args := [d] }
  | _ => none }
def MonthsRiseWrongFalsely : Prop := monthsRiseRow.holds Tryd.pinned (OpenSpec.ofChange monthsRiseWrong)

/-- 'demurragelaw05.MonthsEras': WHATEVER THE INPUT: true; the input reads as it did. -/
def monthsErasSpec : ChangeSpec := { name := "monthsEras", fn := fun _ => fun
  | [d1, d2] => { results := [.lit (.bool true)], args := [d1, d2] }
  | _ => none }
def monthsErasRow : OpenClaim := { program := "ytmbhcomkdcodfaadoor", sum := "8fd4ded9a6bbc1692c10b6437b070c59e1a552c51b549880f68be7dbebbc4aa6", func := "demurrage/demurragelaw05.MonthsEras", spec := "monthsEras", unfollowed := true, recurses := true, named := ["demurrage/civil.lengths"], apart := false, laid := [("demurrage/civil.lengths", laid_demurrage_civil_lengths)] }
def MonthsErasSaid : Prop := monthsErasRow.holds Tryd.pinned (OpenSpec.ofChange monthsErasSpec)

/-- ITS FALSE NEIGHBOUR: 'it returns false'. Refute it at one input. -/
def monthsErasWrong : ChangeSpec := { name := "monthsEras", fn := fun _ => fun
  | [d1, d2] => { results := [.lit (.bool false)], args := [d1, d2] }
  | _ => none }
def MonthsErasWrongFalsely : Prop := monthsErasRow.holds Tryd.pinned (OpenSpec.ofChange monthsErasWrong)

/- THE SECOND FORM. 'bulk': how many values and letters a reading holds, each counted each time it is reached (what is shared counts as often as it is met; a slice's spare places count too). A statement '..UptoSaid' is the law's where the arguments, and the package variables that the reading takes, are together of bulk at most 1048576: NARROWER than '..Said'. Prove '..Said' where nothing that the law and all that it calls make is longer than what came in: it says more and counts as full. Else prove '..UptoSaid'. A law counts once. -/
mutual
def uptoBulk {H : Type} : DataW H → Nat
  | .lit (.string bytes) => bytes.length + 1
  | .lit _ => 1
  | .nil => 1
  | .ptr d => uptoBulk d + 1
  | .slice elems spare => uptoBulkAll elems + uptoBulkAll spare + 1
  | .agg parts => uptoBulkAll parts + 1
  | .iface _ d => uptoBulk d + 1
  | .map entries => uptoBulkEntries entries + 1
  | .held _ => 1
def uptoBulkAll {H : Type} : List (DataW H) → Nat
  | [] => 0
  | d :: r => uptoBulk d + uptoBulkAll r
def uptoBulkEntries {H : Type} : List (Lit × DataW H) → Nat
  | [] => 0
  | x :: r => uptoBulkEntry x + uptoBulkEntries r
def uptoBulkEntry {H : Type} : Lit × DataW H → Nat
  | (.string bytes, d) => bytes.length + uptoBulk d + 1
  | (_, d) => uptoBulk d + 1
 end
def uptoSmall : (H : Type) → List (DataW H) → Bool := fun _ ds => decide (uptoBulkAll ds ≤ 1048576)
def OpenSpec.upto (s : _root_.Go.ChangeSpec) : _root_.Go.OpenSpec := { _root_.Go.OpenSpec.ofChange s with cond := some uptoSmall }

/-- 'demurragelaw05.MonthsTells', WHERE WHAT IT READS IS OF BULK AT MOST 1048576: true; the input reads as it did. -/
def monthsTellsUptoRow : OpenClaim := { program := "ytmbhcomkdcodfaadoor", sum := "8fd4ded9a6bbc1692c10b6437b070c59e1a552c51b549880f68be7dbebbc4aa6", func := "demurrage/demurragelaw05.MonthsTells", spec := "monthsTells", unfollowed := true, recurses := true, named := ["demurrage/civil.lengths"], apart := false, laid := [("demurrage/civil.lengths", laid_demurrage_civil_lengths)], narrowed := true }
def MonthsTellsUptoSaid : Prop := monthsTellsUptoRow.holds Tryd.pinned (OpenSpec.upto monthsTellsSpec)

/-- 'demurragelaw05.MonthsEnds', WHERE WHAT IT READS IS OF BULK AT MOST 1048576: true; the input reads as it did. -/
def monthsEndsUptoRow : OpenClaim := { program := "ytmbhcomkdcodfaadoor", sum := "8fd4ded9a6bbc1692c10b6437b070c59e1a552c51b549880f68be7dbebbc4aa6", func := "demurrage/demurragelaw05.MonthsEnds", spec := "monthsEnds", unfollowed := true, recurses := true, named := ["demurrage/civil.lengths"], apart := false, laid := [("demurrage/civil.lengths", laid_demurrage_civil_lengths)], narrowed := true }
def MonthsEndsUptoSaid : Prop := monthsEndsUptoRow.holds Tryd.pinned (OpenSpec.upto monthsEndsSpec)

/-- 'demurragelaw05.MonthsMoves', WHERE WHAT IT READS IS OF BULK AT MOST 1048576: true; the input reads as it did. -/
def monthsMovesUptoRow : OpenClaim := { program := "ytmbhcomkdcodfaadoor", sum := "8fd4ded9a6bbc1692c10b6437b070c59e1a552c51b549880f68be7dbebbc4aa6", func := "demurrage/demurragelaw05.MonthsMoves", spec := "monthsMoves", unfollowed := true, recurses := true, named := ["demurrage/civil.lengths"], apart := false, laid := [("demurrage/civil.lengths", laid_demurrage_civil_lengths)], narrowed := true }
def MonthsMovesUptoSaid : Prop := monthsMovesUptoRow.holds Tryd.pinned (OpenSpec.upto monthsMovesSpec)

/-- 'demurragelaw05.MonthsBack', WHERE WHAT IT READS IS OF BULK AT MOST 1048576: true; the input reads as it did. -/
def monthsBackUptoRow : OpenClaim := { program := "ytmbhcomkdcodfaadoor", sum := "8fd4ded9a6bbc1692c10b6437b070c59e1a552c51b549880f68be7dbebbc4aa6", func := "demurrage/demurragelaw05.MonthsBack", spec := "monthsBack", unfollowed := true, recurses := true, named := ["demurrage/civil.lengths"], apart := false, laid := [("demurrage/civil.lengths", laid_demurrage_civil_lengths)], narrowed := true }
def MonthsBackUptoSaid : Prop := monthsBackUptoRow.holds Tryd.pinned (OpenSpec.upto monthsBackSpec)

/-- 'demurragelaw05.MonthsRise', WHERE WHAT IT READS IS OF BULK AT MOST 1048576: true; the input reads as it did. -/
def monthsRiseUptoRow : OpenClaim := { program := "ytmbhcomkdcodfaadoor", sum := "8fd4ded9a6bbc1692c10b6437b070c59e1a552c51b549880f68be7dbebbc4aa6", func := "demurrage/demurragelaw05.MonthsRise", spec := "monthsRise", unfollowed := true, recurses := true, named := ["demurrage/civil.lengths"], apart := false, laid := [("demurrage/civil.lengths", laid_demurrage_civil_lengths)], narrowed := true }
def MonthsRiseUptoSaid : Prop := monthsRiseUptoRow.holds Tryd.pinned (OpenSpec.upto monthsRiseSpec)

/-- 'demurragelaw05.MonthsEras', WHERE WHAT IT READS IS OF BULK AT MOST 1048576: true; the input reads as it did. -/
def monthsErasUptoRow : OpenClaim := { program := "ytmbhcomkdcodfaadoor", sum := "8fd4ded9a6bbc1692c10b6437b070c59e1a552c51b549880f68be7dbebbc4aa6", func := "demurrage/demurragelaw05.MonthsEras", spec := "monthsEras", unfollowed := true, recurses := true, named := ["demurrage/civil.lengths"], apart := false, laid := [("demurrage/civil.lengths", laid_demurrage_civil_lengths)], narrowed := true }
def MonthsErasUptoSaid : Prop := monthsErasUptoRow.holds Tryd.pinned (OpenSpec.upto monthsErasSpec)

end Rows
end Go.Proofs.YtmbhcomkdcodfaaDoor
