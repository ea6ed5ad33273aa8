/-
  NARROWER THAN 'FOR EVERY INPUT', by the rows' own cells (each row's printed sentence says how): CountTells: laid · CountNames: laid · CountBeside: laid · CountZero: laid · CountAdds: laid · CountRight: laid.
  DERIVED. THE GIVEN ROWS OF THIS SEAT. 6 by the template 'for every input the law returns true; each argument reads behind the call as it read before'; 0 by the template 'total and deterministic' (their statements: YtkmchbllnfoccaaGreatDoorTotals.lean).
  GIVEN WITH THE SEED: the statements are not yours to turn. If you find one false, say at which input.
  Laid BY PROGRAM, IN A SANDBOX (cutbox-rows.mjs): the forced cells as the released guide's own fill.sh prints them over the translation 444ff0e24da232b9… (all of the seat's roots in one cut). By AI agents, Wed Nov 11 2026. No macro, syntax, notation, axiom, sorry.
-/
import Derived.Test.YtkmchbllnfoccaaGreatDoorChecked
import GoSem.Claim
import GoSem.ClaimJoined
import GoSem.ClaimMapViews
import Derived.JoinedTies
import Derived.KernelRfl
namespace Go.Proofs.YtkmchbllnfoccaaGreatDoor
/- THE CELL 'sum', in the pinned program and in every row, IS THE sha256 OF THE DUMP (.gsa) THAT YtkmchbllnfoccaaGreatDoorProg.lean LOADS. Nothing in Lean hashes anything: it is a label: what it is worth is what the hold of that sum in a sandbox is worth. -/
noncomputable def Tryz.pinned : Pinned := { name := "ytkmchbllnfoccaagreatdoor", sum := "444ff0e24da232b907a33ddd66dc6e77c72bf6f716d20bf83165b130358d89c4", checked := Tryz.checked }
namespace Rows
def none {H : Type} : Left H := { results := [], args := [] }

/- WHAT THE LISTED PACKAGE-LEVEL VARIABLES READ AS WHEN THE CALL BEGINS. Each datum BY PROGRAM (the guide's laid-datum.mjs) off the statement by which the dump's own 'gosem.cut.vars' lays the variable. In a bare row this is a premise. The card (YtkmchbllnfoccaaGreatDoorCards.lean) ties it to the program's text. -/
def laid_demurrage_civil_lengths {H : Type} : DataW H := .agg [.lit (.int .i64 31), .lit (.int .i64 28), .lit (.int .i64 31), .lit (.int .i64 30), .lit (.int .i64 31), .lit (.int .i64 30), .lit (.int .i64 31), .lit (.int .i64 31), .lit (.int .i64 30), .lit (.int .i64 31), .lit (.int .i64 30), .lit (.int .i64 31)]
def laid_errors_errorType {H : Type} : DataW H := .iface "internal/reflectlite.rtype" (.agg [.ptr (.lit (.string [101, 114, 114, 111, 114]))])
def laid_demurrage_actual_errDay {H : Type} : DataW H := .iface "*errors.errorString" (.ptr (.agg [.lit (.string [97, 32, 110, 117, 109, 98, 101, 114, 32, 116, 104, 97, 116, 32, 105, 115, 32, 110, 111, 32, 100, 97, 121, 39, 115])]))
def laid_demurrage_actual_errOrder {H : Type} : DataW H := .iface "*errors.errorString" (.ptr (.agg [.lit (.string [116, 104, 101, 32, 102, 105, 114, 115, 116, 32, 111, 110, 101, 32, 105, 115, 32, 98, 101, 104, 105, 110, 100, 32, 116, 104, 101, 32, 115, 101, 99, 111, 110, 100, 32, 111, 110, 101])]))
def laid_demurrage_icma_errNoDay {H : Type} : DataW H := .iface "*errors.errorString" (.ptr (.agg [.lit (.string [97, 32, 110, 117, 109, 98, 101, 114, 32, 116, 104, 97, 116, 32, 105, 115, 32, 110, 111, 32, 100, 97, 121, 39, 115])]))
def laid_demurrage_icma_errOrder {H : Type} : DataW H := .iface "*errors.errorString" (.ptr (.agg [.lit (.string [116, 104, 101, 32, 102, 105, 114, 115, 116, 32, 100, 97, 121, 32, 105, 115, 32, 98, 101, 104, 105, 110, 100, 32, 116, 104, 101, 32, 115, 101, 99, 111, 110, 100, 32, 111, 110, 101])]))
def laid_demurrage_icma_errMany {H : Type} : DataW H := .iface "*errors.errorString" (.ptr (.agg [.lit (.string [116, 111, 111, 32, 102, 101, 119, 32, 100, 97, 121, 115, 32, 111, 102, 32, 112, 101, 114, 105, 111, 100, 115, 44, 32, 111, 114, 32, 116, 111, 111, 32, 109, 97, 110, 121])]))
def laid_demurrage_icma_errFalls {H : Type} : DataW H := .iface "*errors.errorString" (.ptr (.agg [.lit (.string [97, 32, 100, 97, 121, 32, 111, 102, 32, 112, 101, 114, 105, 111, 100, 115, 32, 105, 115, 32, 98, 101, 108, 111, 119, 32, 116, 104, 101, 32, 111, 110, 101, 32, 97, 104, 101, 97, 100, 32, 111, 102, 32, 105, 116])]))
def laid_demurrage_icma_errEmpty {H : Type} : DataW H := .iface "*errors.errorString" (.ptr (.agg [.lit (.string [116, 104, 101, 32, 112, 101, 114, 105, 111, 100, 115, 32, 104, 97, 118, 101, 32, 110, 111, 32, 100, 97, 121, 115])]))
def laid_demurrage_icma_errFreq {H : Type} : DataW H := .iface "*errors.errorString" (.ptr (.agg [.lit (.string [97, 32, 121, 101, 97, 114, 32, 105, 115, 110, 39, 116, 32, 109, 97, 100, 101, 32, 111, 102, 32, 115, 111, 32, 109, 97, 110, 121, 32, 112, 101, 114, 105, 111, 100, 115])]))
def laid_demurrage_icma_errOutside {H : Type} : DataW H := .iface "*errors.errorString" (.ptr (.agg [.lit (.string [97, 32, 100, 97, 121, 32, 105, 115, 32, 111, 117, 116, 115, 105, 100, 101, 32, 116, 104, 101, 32, 112, 101, 114, 105, 111, 100, 115])]))

/-- 'demurragelaw10.CountTells': WHATEVER THE INPUT: true; the input reads as it did. -/
def countTellsSpec : ChangeSpec := { name := "countTells", fn := fun _ => fun
  | [d] => { results := [.lit (.bool true)], args := [d] }
  | _ => none }
def countTellsRow : OpenClaim := { program := "ytkmchbllnfoccaagreatdoor", sum := "444ff0e24da232b907a33ddd66dc6e77c72bf6f716d20bf83165b130358d89c4", func := "demurrage/demurragelaw10.CountTells", spec := "countTells", inPlace := ["internal/reflectlite.TypeOf", "math/bits.Add64", "internal/reflectlite.ValueOf", "(internal/reflectlite.Value).Type", "(internal/reflectlite.Value).IsNil", "(internal/reflectlite.Value).Elem", "(internal/reflectlite.Value).Set"], unfollowed := true, recurses := true, named := ["demurrage/civil.lengths", "demurrage/actual.errDay", "demurrage/actual.errOrder", "math/bits.divideError", "math/bits.overflowError", "demurrage/icma.errNoDay", "demurrage/icma.errOrder", "demurrage/icma.errOutside", "demurrage/icma.errMany", "demurrage/icma.errFalls", "demurrage/icma.errEmpty", "demurrage/icma.errFreq", "errors.errorType"], apart := false, laid := [("demurrage/civil.lengths", laid_demurrage_civil_lengths), ("errors.errorType", laid_errors_errorType), ("demurrage/actual.errDay", laid_demurrage_actual_errDay), ("demurrage/actual.errOrder", laid_demurrage_actual_errOrder), ("demurrage/icma.errNoDay", laid_demurrage_icma_errNoDay), ("demurrage/icma.errOrder", laid_demurrage_icma_errOrder), ("demurrage/icma.errMany", laid_demurrage_icma_errMany), ("demurrage/icma.errFalls", laid_demurrage_icma_errFalls), ("demurrage/icma.errEmpty", laid_demurrage_icma_errEmpty), ("demurrage/icma.errFreq", laid_demurrage_icma_errFreq), ("demurrage/icma.errOutside", laid_demurrage_icma_errOutside)] }
def CountTellsSaid : Prop := countTellsRow.holds Tryz.pinned (OpenSpec.ofChange countTellsSpec)

/-- ITS FALSE NEIGHBOUR: 'it returns false'. Refute it at one input. -/
def countTellsWrong : ChangeSpec := { name := "countTells", fn := fun _ => fun
  | [d] => { results := [.lit (.bool false)], args := [d] }
  | _ => none }
def CountTellsWrongFalsely : Prop := countTellsRow.holds Tryz.pinned (OpenSpec.ofChange countTellsWrong)

/-- 'demurragelaw10.CountNames': WHATEVER THE INPUT: true; the input reads as it did. -/
def countNamesSpec : ChangeSpec := { name := "countNames", fn := fun _ => fun
  | [d1, d2] => { results := [.lit (.bool true)], args := [d1, d2] }
  | _ => none }
def countNamesRow : OpenClaim := { program := "ytkmchbllnfoccaagreatdoor", sum := "444ff0e24da232b907a33ddd66dc6e77c72bf6f716d20bf83165b130358d89c4", func := "demurrage/demurragelaw10.CountNames", spec := "countNames", inPlace := ["internal/reflectlite.TypeOf", "math/bits.Add64", "internal/reflectlite.ValueOf", "(internal/reflectlite.Value).Type", "(internal/reflectlite.Value).IsNil", "(internal/reflectlite.Value).Elem", "(internal/reflectlite.Value).Set"], unfollowed := true, recurses := true, named := ["demurrage/civil.lengths", "demurrage/actual.errDay", "demurrage/actual.errOrder", "math/bits.divideError", "math/bits.overflowError", "demurrage/icma.errNoDay", "demurrage/icma.errOrder", "demurrage/icma.errOutside", "demurrage/icma.errMany", "demurrage/icma.errFalls", "demurrage/icma.errEmpty", "demurrage/icma.errFreq", "errors.errorType"], apart := false, laid := [("demurrage/civil.lengths", laid_demurrage_civil_lengths), ("errors.errorType", laid_errors_errorType), ("demurrage/actual.errDay", laid_demurrage_actual_errDay), ("demurrage/actual.errOrder", laid_demurrage_actual_errOrder), ("demurrage/icma.errNoDay", laid_demurrage_icma_errNoDay), ("demurrage/icma.errOrder", laid_demurrage_icma_errOrder), ("demurrage/icma.errMany", laid_demurrage_icma_errMany), ("demurrage/icma.errFalls", laid_demurrage_icma_errFalls), ("demurrage/icma.errEmpty", laid_demurrage_icma_errEmpty), ("demurrage/icma.errFreq", laid_demurrage_icma_errFreq), ("demurrage/icma.errOutside", laid_demurrage_icma_errOutside)] }
def CountNamesSaid : Prop := countNamesRow.holds Tryz.pinned (OpenSpec.ofChange countNamesSpec)

/-- ITS FALSE NEIGHBOUR: 'it returns false'. Refute it at one input. -/
def countNamesWrong : ChangeSpec := { name := "countNames", fn := fun _ => fun
  | [d1, d2] => { results := [.lit (.bool false)], args := [d1, d2] }
  | _ => none }
def CountNamesWrongFalsely : Prop := countNamesRow.holds Tryz.pinned (OpenSpec.ofChange countNamesWrong)

/-- 'demurragelaw10.CountBeside': WHATEVER THE INPUT: true; the input reads as it did. -/
def countBesideSpec : ChangeSpec := { name := "countBeside", fn := fun _ => fun
  | [d] => { results := [.lit (.bool true)], args := [d] }
  | _ => none }
def countBesideRow : OpenClaim := { program := "ytkmchbllnfoccaagreatdoor", sum := "444ff0e24da232b907a33ddd66dc6e77c72bf6f716d20bf83165b130358d89c4", func := "demurrage/demurragelaw10.CountBeside", spec := "countBeside", inPlace := ["internal/reflectlite.TypeOf", "math/bits.Add64", "internal/reflectlite.ValueOf", "(internal/reflectlite.Value).Type", "(internal/reflectlite.Value).IsNil", "(internal/reflectlite.Value).Elem", "(internal/reflectlite.Value).Set"], unfollowed := true, recurses := true, named := ["demurrage/civil.lengths", "demurrage/actual.errDay", "demurrage/actual.errOrder", "math/bits.divideError", "math/bits.overflowError", "demurrage/icma.errNoDay", "demurrage/icma.errOrder", "demurrage/icma.errOutside", "demurrage/icma.errMany", "demurrage/icma.errFalls", "demurrage/icma.errEmpty", "demurrage/icma.errFreq", "errors.errorType"], apart := false, laid := [("demurrage/civil.lengths", laid_demurrage_civil_lengths), ("errors.errorType", laid_errors_errorType), ("demurrage/actual.errDay", laid_demurrage_actual_errDay), ("demurrage/actual.errOrder", laid_demurrage_actual_errOrder), ("demurrage/icma.errNoDay", laid_demurrage_icma_errNoDay), ("demurrage/icma.errOrder", laid_demurrage_icma_errOrder), ("demurrage/icma.errMany", laid_demurrage_icma_errMany), ("demurrage/icma.errFalls", laid_demurrage_icma_errFalls), ("demurrage/icma.errEmpty", laid_demurrage_icma_errEmpty), ("demurrage/icma.errFreq", laid_demurrage_icma_errFreq), ("demurrage/icma.errOutside", laid_demurrage_icma_errOutside)] }
def CountBesideSaid : Prop := countBesideRow.holds Tryz.pinned (OpenSpec.ofChange countBesideSpec)

/-- ITS FALSE NEIGHBOUR: 'it returns false'. Refute it at one input. -/
def countBesideWrong : ChangeSpec := { name := "countBeside", fn := fun _ => fun
  | [d] => { results := [.lit (.bool false)], args := [d] }
  | _ => none }
def CountBesideWrongFalsely : Prop := countBesideRow.holds Tryz.pinned (OpenSpec.ofChange countBesideWrong)

/-- 'demurragelaw10.CountZero': WHATEVER THE INPUT: true; the input reads as it did. -/
def countZeroSpec : ChangeSpec := { name := "countZero", fn := fun _ => fun
  | [d] => { results := [.lit (.bool true)], args := [d] }
  | _ => none }
def countZeroRow : OpenClaim := { program := "ytkmchbllnfoccaagreatdoor", sum := "444ff0e24da232b907a33ddd66dc6e77c72bf6f716d20bf83165b130358d89c4", func := "demurrage/demurragelaw10.CountZero", spec := "countZero", inPlace := ["internal/reflectlite.TypeOf", "math/bits.Add64", "internal/reflectlite.ValueOf", "(internal/reflectlite.Value).Type", "(internal/reflectlite.Value).IsNil", "(internal/reflectlite.Value).Elem", "(internal/reflectlite.Value).Set"], unfollowed := true, recurses := true, named := ["demurrage/civil.lengths", "demurrage/actual.errDay", "demurrage/actual.errOrder", "math/bits.divideError", "math/bits.overflowError", "demurrage/icma.errNoDay", "demurrage/icma.errOrder", "demurrage/icma.errOutside", "demurrage/icma.errMany", "demurrage/icma.errFalls", "demurrage/icma.errEmpty", "demurrage/icma.errFreq", "errors.errorType"], apart := false, laid := [("demurrage/civil.lengths", laid_demurrage_civil_lengths), ("errors.errorType", laid_errors_errorType), ("demurrage/actual.errDay", laid_demurrage_actual_errDay), ("demurrage/actual.errOrder", laid_demurrage_actual_errOrder), ("demurrage/icma.errNoDay", laid_demurrage_icma_errNoDay), ("demurrage/icma.errOrder", laid_demurrage_icma_errOrder), ("demurrage/icma.errMany", laid_demurrage_icma_errMany), ("demurrage/icma.errFalls", laid_demurrage_icma_errFalls), ("demurrage/icma.errEmpty", laid_demurrage_icma_errEmpty), ("demurrage/icma.errFreq", laid_demurrage_icma_errFreq), ("demurrage/icma.errOutside", laid_demurrage_icma_errOutside)] }
def CountZeroSaid : Prop := countZeroRow.holds Tryz.pinned (OpenSpec.ofChange countZeroSpec)

/-- ITS FALSE NEIGHBOUR: 'it returns false'. Refute it at one input. -/
def countZeroWrong : ChangeSpec := { name := "countZero", fn := fun _ => fun
  | [d] => { results := [.lit (.bool false)], args := [d] }
  | _ => none }
def CountZeroWrongFalsely : Prop := countZeroRow.holds Tryz.pinned (OpenSpec.ofChange countZeroWrong)

/-- 'demurragelaw10.CountAdds': WHATEVER THE INPUT: true; the input reads as it did. -/
def countAddsSpec : ChangeSpec := { name := "countAdds", fn := fun _ => fun
  | [d] => { results := [.lit (.bool true)], args := [d] }
  | _ => none }
def countAddsRow : OpenClaim := { program := "ytkmchbllnfoccaagreatdoor", sum := "444ff0e24da232b907a33ddd66dc6e77c72bf6f716d20bf83165b130358d89c4", func := "demurrage/demurragelaw10.CountAdds", spec := "countAdds", inPlace := ["internal/reflectlite.TypeOf", "math/bits.Add64", "internal/reflectlite.ValueOf", "(internal/reflectlite.Value).Type", "(internal/reflectlite.Value).IsNil", "(internal/reflectlite.Value).Elem", "(internal/reflectlite.Value).Set"], unfollowed := true, recurses := true, named := ["demurrage/civil.lengths", "demurrage/actual.errDay", "demurrage/actual.errOrder", "math/bits.divideError", "math/bits.overflowError", "demurrage/icma.errNoDay", "demurrage/icma.errOrder", "demurrage/icma.errOutside", "demurrage/icma.errMany", "demurrage/icma.errFalls", "demurrage/icma.errEmpty", "demurrage/icma.errFreq", "errors.errorType"], apart := false, laid := [("demurrage/civil.lengths", laid_demurrage_civil_lengths), ("errors.errorType", laid_errors_errorType), ("demurrage/actual.errDay", laid_demurrage_actual_errDay), ("demurrage/actual.errOrder", laid_demurrage_actual_errOrder), ("demurrage/icma.errNoDay", laid_demurrage_icma_errNoDay), ("demurrage/icma.errOrder", laid_demurrage_icma_errOrder), ("demurrage/icma.errMany", laid_demurrage_icma_errMany), ("demurrage/icma.errFalls", laid_demurrage_icma_errFalls), ("demurrage/icma.errEmpty", laid_demurrage_icma_errEmpty), ("demurrage/icma.errFreq", laid_demurrage_icma_errFreq), ("demurrage/icma.errOutside", laid_demurrage_icma_errOutside)] }
def CountAddsSaid : Prop := countAddsRow.holds Tryz.pinned (OpenSpec.ofChange countAddsSpec)

/-- ITS FALSE NEIGHBOUR: 'it returns false'. Refute it at one input. -/
def countAddsWrong : ChangeSpec := { name := "countAdds", fn := fun _ => fun
  | [d] => { results := [.lit (.bool false)], args := [d] }
  | _ => none }
def CountAddsWrongFalsely : Prop := countAddsRow.holds Tryz.pinned (OpenSpec.ofChange countAddsWrong)

/-- 'demurragelaw10.CountRight': WHATEVER THE INPUT: true; the input reads as it did. -/
def countRightSpec : ChangeSpec := { name := "countRight", fn := fun _ => fun
  | [d] => { results := [.lit (.bool true)], args := [d] }
  | _ => none }
def countRightRow : OpenClaim := { program := "ytkmchbllnfoccaagreatdoor", sum := "444ff0e24da232b907a33ddd66dc6e77c72bf6f716d20bf83165b130358d89c4", func := "demurrage/demurragelaw10.CountRight", spec := "countRight", inPlace := ["internal/reflectlite.TypeOf", "math/bits.Add64", "internal/reflectlite.ValueOf", "(internal/reflectlite.Value).Type", "(internal/reflectlite.Value).IsNil", "(internal/reflectlite.Value).Elem", "(internal/reflectlite.Value).Set"], unfollowed := true, recurses := true, named := ["demurrage/civil.lengths", "demurrage/actual.errDay", "demurrage/actual.errOrder", "math/bits.divideError", "math/bits.overflowError", "demurrage/icma.errNoDay", "demurrage/icma.errOrder", "demurrage/icma.errOutside", "demurrage/icma.errMany", "demurrage/icma.errFalls", "demurrage/icma.errEmpty", "demurrage/icma.errFreq", "errors.errorType"], apart := false, laid := [("demurrage/civil.lengths", laid_demurrage_civil_lengths), ("errors.errorType", laid_errors_errorType), ("demurrage/actual.errDay", laid_demurrage_actual_errDay), ("demurrage/actual.errOrder", laid_demurrage_actual_errOrder), ("demurrage/icma.errNoDay", laid_demurrage_icma_errNoDay), ("demurrage/icma.errOrder", laid_demurrage_icma_errOrder), ("demurrage/icma.errMany", laid_demurrage_icma_errMany), ("demurrage/icma.errFalls", laid_demurrage_icma_errFalls), ("demurrage/icma.errEmpty", laid_demurrage_icma_errEmpty), ("demurrage/icma.errFreq", laid_demurrage_icma_errFreq), ("demurrage/icma.errOutside", laid_demurrage_icma_errOutside)] }
def CountRightSaid : Prop := countRightRow.holds Tryz.pinned (OpenSpec.ofChange countRightSpec)

/-- ITS FALSE NEIGHBOUR: 'it returns false'. Refute it at one input. -/
def countRightWrong : ChangeSpec := { name := "countRight", fn := fun _ => fun
  | [d] => { results := [.lit (.bool false)], args := [d] }
  | _ => none }
def CountRightWrongFalsely : Prop := countRightRow.holds Tryz.pinned (OpenSpec.ofChange countRightWrong)

/- THE SECOND FORM. 'bulk': how many values and letters a reading holds, each counted each time it is reached (what is shared counts as often as it is met; a slice's spare places count too). A statement '..UptoSaid' is the law's where the arguments, and the package variables that the reading takes, are together of bulk at most 1048576: NARROWER than '..Said'. Prove '..Said' where nothing that the law and all that it calls make is longer than what came in: it says more and counts as full. Else prove '..UptoSaid'. A law counts once. -/
mutual
def uptoBulk {H : Type} : DataW H → Nat
  | .lit (.string bytes) => bytes.length + 1
  | .lit _ => 1
  | .nil => 1
  | .ptr d => uptoBulk d + 1
  | .slice elems spare => uptoBulkAll elems + uptoBulkAll spare + 1
  | .agg parts => uptoBulkAll parts + 1
  | .iface _ d => uptoBulk d + 1
  | .map entries => uptoBulkEntries entries + 1
  | .held _ => 1
def uptoBulkAll {H : Type} : List (DataW H) → Nat
  | [] => 0
  | d :: r => uptoBulk d + uptoBulkAll r
def uptoBulkEntries {H : Type} : List (Lit × DataW H) → Nat
  | [] => 0
  | x :: r => uptoBulkEntry x + uptoBulkEntries r
def uptoBulkEntry {H : Type} : Lit × DataW H → Nat
  | (.string bytes, d) => bytes.length + uptoBulk d + 1
  | (_, d) => uptoBulk d + 1
 end
def uptoSmall : (H : Type) → List (DataW H) → Bool := fun _ ds => decide (uptoBulkAll ds ≤ 1048576)
def OpenSpec.upto (s : _root_.Go.ChangeSpec) : _root_.Go.OpenSpec := { _root_.Go.OpenSpec.ofChange s with cond := some uptoSmall }

/-- 'demurragelaw10.CountTells', WHERE WHAT IT READS IS OF BULK AT MOST 1048576: true; the input reads as it did. -/
def countTellsUptoRow : OpenClaim := { program := "ytkmchbllnfoccaagreatdoor", sum := "444ff0e24da232b907a33ddd66dc6e77c72bf6f716d20bf83165b130358d89c4", func := "demurrage/demurragelaw10.CountTells", spec := "countTells", inPlace := ["internal/reflectlite.TypeOf", "math/bits.Add64", "internal/reflectlite.ValueOf", "(internal/reflectlite.Value).Type", "(internal/reflectlite.Value).IsNil", "(internal/reflectlite.Value).Elem", "(internal/reflectlite.Value).Set"], unfollowed := true, recurses := true, named := ["demurrage/civil.lengths", "demurrage/actual.errDay", "demurrage/actual.errOrder", "math/bits.divideError", "math/bits.overflowError", "demurrage/icma.errNoDay", "demurrage/icma.errOrder", "demurrage/icma.errOutside", "demurrage/icma.errMany", "demurrage/icma.errFalls", "demurrage/icma.errEmpty", "demurrage/icma.errFreq", "errors.errorType"], apart := false, laid := [("demurrage/civil.lengths", laid_demurrage_civil_lengths), ("errors.errorType", laid_errors_errorType), ("demurrage/actual.errDay", laid_demurrage_actual_errDay), ("demurrage/actual.errOrder", laid_demurrage_actual_errOrder), ("demurrage/icma.errNoDay", laid_demurrage_icma_errNoDay), ("demurrage/icma.errOrder", laid_demurrage_icma_errOrder), ("demurrage/icma.errMany", laid_demurrage_icma_errMany), ("demurrage/icma.errFalls", laid_demurrage_icma_errFalls), ("demurrage/icma.errEmpty", laid_demurrage_icma_errEmpty), ("demurrage/icma.errFreq", laid_demurrage_icma_errFreq), ("demurrage/icma.errOutside", laid_demurrage_icma_errOutside)], narrowed := true }
def CountTellsUptoSaid : Prop := countTellsUptoRow.holds Tryz.pinned (OpenSpec.upto countTellsSpec)

/-- 'demurragelaw10.CountNames', WHERE WHAT IT READS IS OF BULK AT MOST 1048576: true; the input reads as it did. -/
def countNamesUptoRow : OpenClaim := { program := "ytkmchbllnfoccaagreatdoor", sum := "444ff0e24da232b907a33ddd66dc6e77c72bf6f716d20bf83165b130358d89c4", func := "demurrage/demurragelaw10.CountNames", spec := "countNames", inPlace := ["internal/reflectlite.TypeOf", "math/bits.Add64", "internal/reflectlite.ValueOf", "(internal/reflectlite.Value).Type", "(internal/reflectlite.Value).IsNil", "(internal/reflectlite.Value).Elem", "(internal/reflectlite.Value).Set"], unfollowed := true, recurses := true, named := ["demurrage/civil.lengths", "demurrage/actual.errDay", "demurrage/actual.errOrder", "math/bits.divideError", "math/bits.overflowError", "demurrage/icma.errNoDay", "demurrage/icma.errOrder", "demurrage/icma.errOutside", "demurrage/icma.errMany", "demurrage/icma.errFalls", "demurrage/icma.errEmpty", "demurrage/icma.errFreq", "errors.errorType"], apart := false, laid := [("demurrage/civil.lengths", laid_demurrage_civil_lengths), ("errors.errorType", laid_errors_errorType), ("demurrage/actual.errDay", laid_demurrage_actual_errDay), ("demurrage/actual.errOrder", laid_demurrage_actual_errOrder), ("demurrage/icma.errNoDay", laid_demurrage_icma_errNoDay), ("demurrage/icma.errOrder", laid_demurrage_icma_errOrder), ("demurrage/icma.errMany", laid_demurrage_icma_errMany), ("demurrage/icma.errFalls", laid_demurrage_icma_errFalls), ("demurrage/icma.errEmpty", laid_demurrage_icma_errEmpty), ("demurrage/icma.errFreq", laid_demurrage_icma_errFreq), ("demurrage/icma.errOutside", laid_demurrage_icma_errOutside)], narrowed := true }
def CountNamesUptoSaid : Prop := countNamesUptoRow.holds Tryz.pinned (OpenSpec.upto countNamesSpec)

/-- 'demurragelaw10.CountBeside', WHERE WHAT IT READS IS OF BULK AT MOST 1048576: true; the input reads as it did. -/
def countBesideUptoRow : OpenClaim := { program := "ytkmchbllnfoccaagreatdoor", sum := "444ff0e24da232b907a33ddd66dc6e77c72bf6f716d20bf83165b130358d89c4", func := "demurrage/demurragelaw10.CountBeside", spec := "countBeside", inPlace := ["internal/reflectlite.TypeOf", "math/bits.Add64", "internal/reflectlite.ValueOf", "(internal/reflectlite.Value).Type", "(internal/reflectlite.Value).IsNil", "(internal/reflectlite.Value).Elem", "(internal/reflectlite.Value).Set"], unfollowed := true, recurses := true, named := ["demurrage/civil.lengths", "demurrage/actual.errDay", "demurrage/actual.errOrder", "math/bits.divideError", "math/bits.overflowError", "demurrage/icma.errNoDay", "demurrage/icma.errOrder", "demurrage/icma.errOutside", "demurrage/icma.errMany", "demurrage/icma.errFalls", "demurrage/icma.errEmpty", "demurrage/icma.errFreq", "errors.errorType"], apart := false, laid := [("demurrage/civil.lengths", laid_demurrage_civil_lengths), ("errors.errorType", laid_errors_errorType), ("demurrage/actual.errDay", laid_demurrage_actual_errDay), ("demurrage/actual.errOrder", laid_demurrage_actual_errOrder), ("demurrage/icma.errNoDay", laid_demurrage_icma_errNoDay), ("demurrage/icma.errOrder", laid_demurrage_icma_errOrder), ("demurrage/icma.errMany", laid_demurrage_icma_errMany), ("demurrage/icma.errFalls", laid_demurrage_icma_errFalls), ("demurrage/icma.errEmpty", laid_demurrage_icma_errEmpty), ("demurrage/icma.errFreq", laid_demurrage_icma_errFreq), ("demurrage/icma.errOutside", laid_demurrage_icma_errOutside)], narrowed := true }
def CountBesideUptoSaid : Prop := countBesideUptoRow.holds Tryz.pinned (OpenSpec.upto countBesideSpec)

/-- 'demurragelaw10.CountZero', WHERE WHAT IT READS IS OF BULK AT MOST 1048576: true; the input reads as it did. -/
def countZeroUptoRow : OpenClaim := { program := "ytkmchbllnfoccaagreatdoor", sum := "444ff0e24da232b907a33ddd66dc6e77c72bf6f716d20bf83165b130358d89c4", func := "demurrage/demurragelaw10.CountZero", spec := "countZero", inPlace := ["internal/reflectlite.TypeOf", "math/bits.Add64", "internal/reflectlite.ValueOf", "(internal/reflectlite.Value).Type", "(internal/reflectlite.Value).IsNil", "(internal/reflectlite.Value).Elem", "(internal/reflectlite.Value).Set"], unfollowed := true, recurses := true, named := ["demurrage/civil.lengths", "demurrage/actual.errDay", "demurrage/actual.errOrder", "math/bits.divideError", "math/bits.overflowError", "demurrage/icma.errNoDay", "demurrage/icma.errOrder", "demurrage/icma.errOutside", "demurrage/icma.errMany", "demurrage/icma.errFalls", "demurrage/icma.errEmpty", "demurrage/icma.errFreq", "errors.errorType"], apart := false, laid := [("demurrage/civil.lengths", laid_demurrage_civil_lengths), ("errors.errorType", laid_errors_errorType), ("demurrage/actual.errDay", laid_demurrage_actual_errDay), ("demurrage/actual.errOrder", laid_demurrage_actual_errOrder), ("demurrage/icma.errNoDay", laid_demurrage_icma_errNoDay), ("demurrage/icma.errOrder", laid_demurrage_icma_errOrder), ("demurrage/icma.errMany", laid_demurrage_icma_errMany), ("demurrage/icma.errFalls", laid_demurrage_icma_errFalls), ("demurrage/icma.errEmpty", laid_demurrage_icma_errEmpty), ("demurrage/icma.errFreq", laid_demurrage_icma_errFreq), ("demurrage/icma.errOutside", laid_demurrage_icma_errOutside)], narrowed := true }
def CountZeroUptoSaid : Prop := countZeroUptoRow.holds Tryz.pinned (OpenSpec.upto countZeroSpec)

/-- 'demurragelaw10.CountAdds', WHERE WHAT IT READS IS OF BULK AT MOST 1048576: true; the input reads as it did. -/
def countAddsUptoRow : OpenClaim := { program := "ytkmchbllnfoccaagreatdoor", sum := "444ff0e24da232b907a33ddd66dc6e77c72bf6f716d20bf83165b130358d89c4", func := "demurrage/demurragelaw10.CountAdds", spec := "countAdds", inPlace := ["internal/reflectlite.TypeOf", "math/bits.Add64", "internal/reflectlite.ValueOf", "(internal/reflectlite.Value).Type", "(internal/reflectlite.Value).IsNil", "(internal/reflectlite.Value).Elem", "(internal/reflectlite.Value).Set"], unfollowed := true, recurses := true, named := ["demurrage/civil.lengths", "demurrage/actual.errDay", "demurrage/actual.errOrder", "math/bits.divideError", "math/bits.overflowError", "demurrage/icma.errNoDay", "demurrage/icma.errOrder", "demurrage/icma.errOutside", "demurrage/icma.errMany", "demurrage/icma.errFalls", "demurrage/icma.errEmpty", "demurrage/icma.errFreq", "errors.errorType"], apart := false, laid := [("demurrage/civil.lengths", laid_demurrage_civil_lengths), ("errors.errorType", laid_errors_errorType), ("demurrage/actual.errDay", laid_demurrage_actual_errDay), ("demurrage/actual.errOrder", laid_demurrage_actual_errOrder), ("demurrage/icma.errNoDay", laid_demurrage_icma_errNoDay), ("demurrage/icma.errOrder", laid_demurrage_icma_errOrder), ("demurrage/icma.errMany", laid_demurrage_icma_errMany), ("demurrage/icma.errFalls", laid_demurrage_icma_errFalls), ("demurrage/icma.errEmpty", laid_demurrage_icma_errEmpty), ("demurrage/icma.errFreq", laid_demurrage_icma_errFreq), ("demurrage/icma.errOutside", laid_demurrage_icma_errOutside)], narrowed := true }
def CountAddsUptoSaid : Prop := countAddsUptoRow.holds Tryz.pinned (OpenSpec.upto countAddsSpec)

/-- 'demurragelaw10.CountRight', WHERE WHAT IT READS IS OF BULK AT MOST 1048576: true; the input reads as it did. -/
def countRightUptoRow : OpenClaim := { program := "ytkmchbllnfoccaagreatdoor", sum := "444ff0e24da232b907a33ddd66dc6e77c72bf6f716d20bf83165b130358d89c4", func := "demurrage/demurragelaw10.CountRight", spec := "countRight", inPlace := ["internal/reflectlite.TypeOf", "math/bits.Add64", "internal/reflectlite.ValueOf", "(internal/reflectlite.Value).Type", "(internal/reflectlite.Value).IsNil", "(internal/reflectlite.Value).Elem", "(internal/reflectlite.Value).Set"], unfollowed := true, recurses := true, named := ["demurrage/civil.lengths", "demurrage/actual.errDay", "demurrage/actual.errOrder", "math/bits.divideError", "math/bits.overflowError", "demurrage/icma.errNoDay", "demurrage/icma.errOrder", "demurrage/icma.errOutside", "demurrage/icma.errMany", "demurrage/icma.errFalls", "demurrage/icma.errEmpty", "demurrage/icma.errFreq", "errors.errorType"], apart := false, laid := [("demurrage/civil.lengths", laid_demurrage_civil_lengths), ("errors.errorType", laid_errors_errorType), ("demurrage/actual.errDay", laid_demurrage_actual_errDay), ("demurrage/actual.errOrder", laid_demurrage_actual_errOrder), ("demurrage/icma.errNoDay", laid_demurrage_icma_errNoDay), ("demurrage/icma.errOrder", laid_demurrage_icma_errOrder), ("demurrage/icma.errMany", laid_demurrage_icma_errMany), ("demurrage/icma.errFalls", laid_demurrage_icma_errFalls), ("demurrage/icma.errEmpty", laid_demurrage_icma_errEmpty), ("demurrage/icma.errFreq", laid_demurrage_icma_errFreq), ("demurrage/icma.errOutside", laid_demurrage_icma_errOutside)], narrowed := true }
def CountRightUptoSaid : Prop := countRightUptoRow.holds Tryz.pinned (OpenSpec.upto countRightSpec)

end Rows
end Go.Proofs.YtkmchbllnfoccaaGreatDoor
