/-
  NARROWER THAN 'FOR EVERY INPUT', by the rows' own cells (each row's printed sentence says how): IcmaTells: laid · IcmaAdds: laid · IcmaWhole: laid · IcmaSplit: laid · IcmaScales: laid.
  DERIVED. THE GIVEN ROWS OF THIS SEAT. 5 by the template 'for every input the law returns true; each argument reads behind the call as it read before'; 0 by the template 'total and deterministic' (their statements: YtcplfgmajbadmaaDoorTotals.lean).
  GIVEN WITH THE SEED: the statements are not yours to turn. If you find one false, say at which input.
  Laid BY PROGRAM, IN A SANDBOX (cutbox-rows.mjs): the forced cells as the released guide's own fill.sh prints them over the translation 055d595255b8bdbe… (all of the seat's roots in one cut). By AI agents, Wed Nov 11 2026. No macro, syntax, notation, axiom, sorry.
-/
import Derived.Test.YtcplfgmajbadmaaDoorChecked
import GoSem.Claim
import GoSem.ClaimJoined
import GoSem.ClaimMapViews
import Derived.JoinedTies
import Derived.KernelRfl
namespace Go.Proofs.YtcplfgmajbadmaaDoor
/- THE CELL 'sum', in the pinned program and in every row, IS THE sha256 OF THE DUMP (.gsa) THAT YtcplfgmajbadmaaDoorProg.lean LOADS. Nothing in Lean hashes anything: it is a label: what it is worth is what the hold of that sum in a sandbox is worth. -/
noncomputable def Tryd.pinned : Pinned := { name := "ytcplfgmajbadmaadoor", sum := "055d595255b8bdbe719a1b7b719cedbf18935cc08a6baf67372664f5857b8296", checked := Tryd.checked }
namespace Rows
def none {H : Type} : Left H := { results := [], args := [] }

/- WHAT THE LISTED PACKAGE-LEVEL VARIABLES READ AS WHEN THE CALL BEGINS. Each datum BY PROGRAM (the guide's laid-datum.mjs) off the statement by which the dump's own 'gosem.cut.vars' lays the variable. In a bare row this is a premise. The card (YtcplfgmajbadmaaDoorCards.lean) ties it to the program's text. -/
def laid_demurrage_civil_lengths {H : Type} : DataW H := .agg [.lit (.int .i64 31), .lit (.int .i64 28), .lit (.int .i64 31), .lit (.int .i64 30), .lit (.int .i64 31), .lit (.int .i64 30), .lit (.int .i64 31), .lit (.int .i64 31), .lit (.int .i64 30), .lit (.int .i64 31), .lit (.int .i64 30), .lit (.int .i64 31)]
def laid_errors_errorType {H : Type} : DataW H := .iface "internal/reflectlite.rtype" (.agg [.ptr (.lit (.string [101, 114, 114, 111, 114]))])
def laid_demurrage_icma_errNoDay {H : Type} : DataW H := .iface "*errors.errorString" (.ptr (.agg [.lit (.string [97, 32, 110, 117, 109, 98, 101, 114, 32, 116, 104, 97, 116, 32, 105, 115, 32, 110, 111, 32, 100, 97, 121, 39, 115])]))
def laid_demurrage_icma_errOrder {H : Type} : DataW H := .iface "*errors.errorString" (.ptr (.agg [.lit (.string [116, 104, 101, 32, 102, 105, 114, 115, 116, 32, 100, 97, 121, 32, 105, 115, 32, 98, 101, 104, 105, 110, 100, 32, 116, 104, 101, 32, 115, 101, 99, 111, 110, 100, 32, 111, 110, 101])]))
def laid_demurrage_icma_errMany {H : Type} : DataW H := .iface "*errors.errorString" (.ptr (.agg [.lit (.string [116, 111, 111, 32, 102, 101, 119, 32, 100, 97, 121, 115, 32, 111, 102, 32, 112, 101, 114, 105, 111, 100, 115, 44, 32, 111, 114, 32, 116, 111, 111, 32, 109, 97, 110, 121])]))
def laid_demurrage_icma_errFalls {H : Type} : DataW H := .iface "*errors.errorString" (.ptr (.agg [.lit (.string [97, 32, 100, 97, 121, 32, 111, 102, 32, 112, 101, 114, 105, 111, 100, 115, 32, 105, 115, 32, 98, 101, 108, 111, 119, 32, 116, 104, 101, 32, 111, 110, 101, 32, 97, 104, 101, 97, 100, 32, 111, 102, 32, 105, 116])]))
def laid_demurrage_icma_errEmpty {H : Type} : DataW H := .iface "*errors.errorString" (.ptr (.agg [.lit (.string [116, 104, 101, 32, 112, 101, 114, 105, 111, 100, 115, 32, 104, 97, 118, 101, 32, 110, 111, 32, 100, 97, 121, 115])]))
def laid_demurrage_icma_errFreq {H : Type} : DataW H := .iface "*errors.errorString" (.ptr (.agg [.lit (.string [97, 32, 121, 101, 97, 114, 32, 105, 115, 110, 39, 116, 32, 109, 97, 100, 101, 32, 111, 102, 32, 115, 111, 32, 109, 97, 110, 121, 32, 112, 101, 114, 105, 111, 100, 115])]))
def laid_demurrage_icma_errOutside {H : Type} : DataW H := .iface "*errors.errorString" (.ptr (.agg [.lit (.string [97, 32, 100, 97, 121, 32, 105, 115, 32, 111, 117, 116, 115, 105, 100, 101, 32, 116, 104, 101, 32, 112, 101, 114, 105, 111, 100, 115])]))

/-- 'demurragelaw09.IcmaTells': WHATEVER THE INPUT: true; the input reads as it did. -/
def icmaTellsSpec : ChangeSpec := { name := "icmaTells", fn := fun _ => fun
  | [d] => { results := [.lit (.bool true)], args := [d] }
  | _ => none }
def icmaTellsRow : OpenClaim := { program := "ytcplfgmajbadmaadoor", sum := "055d595255b8bdbe719a1b7b719cedbf18935cc08a6baf67372664f5857b8296", func := "demurrage/demurragelaw09.IcmaTells", spec := "icmaTells", inPlace := ["internal/reflectlite.ValueOf", "(internal/reflectlite.Value).Type", "(internal/reflectlite.Value).IsNil", "internal/reflectlite.TypeOf", "(internal/reflectlite.Value).Elem", "(internal/reflectlite.Value).Set", "math/bits.Add64"], unfollowed := true, recurses := true, named := ["demurrage/icma.errNoDay", "demurrage/icma.errOrder", "demurrage/icma.errOutside", "demurrage/civil.lengths", "demurrage/icma.errMany", "demurrage/icma.errFalls", "demurrage/icma.errEmpty", "demurrage/icma.errFreq", "errors.errorType", "math/bits.divideError", "math/bits.overflowError"], apart := false, laid := [("demurrage/civil.lengths", laid_demurrage_civil_lengths), ("errors.errorType", laid_errors_errorType), ("demurrage/icma.errNoDay", laid_demurrage_icma_errNoDay), ("demurrage/icma.errOrder", laid_demurrage_icma_errOrder), ("demurrage/icma.errMany", laid_demurrage_icma_errMany), ("demurrage/icma.errFalls", laid_demurrage_icma_errFalls), ("demurrage/icma.errEmpty", laid_demurrage_icma_errEmpty), ("demurrage/icma.errFreq", laid_demurrage_icma_errFreq), ("demurrage/icma.errOutside", laid_demurrage_icma_errOutside)] }
def IcmaTellsSaid : Prop := icmaTellsRow.holds Tryd.pinned (OpenSpec.ofChange icmaTellsSpec)

/-- ITS FALSE NEIGHBOUR: 'it returns false'. Refute it at one input. -/
def icmaTellsWrong : ChangeSpec := { name := "icmaTells", fn := fun _ => fun
  | [d] => { results := [.lit (.bool false)], args := [d] }
  | _ => none }
def IcmaTellsWrongFalsely : Prop := icmaTellsRow.holds Tryd.pinned (OpenSpec.ofChange icmaTellsWrong)

/-- 'demurragelaw09.IcmaAdds': WHATEVER THE INPUT: true; the input reads as it did. -/
def icmaAddsSpec : ChangeSpec := { name := "icmaAdds", fn := fun _ => fun
  | [d] => { results := [.lit (.bool true)], args := [d] }
  | _ => none }
def icmaAddsRow : OpenClaim := { program := "ytcplfgmajbadmaadoor", sum := "055d595255b8bdbe719a1b7b719cedbf18935cc08a6baf67372664f5857b8296", func := "demurrage/demurragelaw09.IcmaAdds", spec := "icmaAdds", inPlace := ["internal/reflectlite.ValueOf", "(internal/reflectlite.Value).Type", "(internal/reflectlite.Value).IsNil", "internal/reflectlite.TypeOf", "(internal/reflectlite.Value).Elem", "(internal/reflectlite.Value).Set", "math/bits.Add64"], unfollowed := true, recurses := true, named := ["demurrage/icma.errNoDay", "demurrage/icma.errOrder", "demurrage/icma.errOutside", "demurrage/civil.lengths", "demurrage/icma.errMany", "demurrage/icma.errFalls", "demurrage/icma.errEmpty", "demurrage/icma.errFreq", "errors.errorType", "math/bits.divideError", "math/bits.overflowError"], apart := false, laid := [("demurrage/civil.lengths", laid_demurrage_civil_lengths), ("errors.errorType", laid_errors_errorType), ("demurrage/icma.errNoDay", laid_demurrage_icma_errNoDay), ("demurrage/icma.errOrder", laid_demurrage_icma_errOrder), ("demurrage/icma.errMany", laid_demurrage_icma_errMany), ("demurrage/icma.errFalls", laid_demurrage_icma_errFalls), ("demurrage/icma.errEmpty", laid_demurrage_icma_errEmpty), ("demurrage/icma.errFreq", laid_demurrage_icma_errFreq), ("demurrage/icma.errOutside", laid_demurrage_icma_errOutside)] }
def IcmaAddsSaid : Prop := icmaAddsRow.holds Tryd.pinned (OpenSpec.ofChange icmaAddsSpec)

/-- ITS FALSE NEIGHBOUR: 'it returns false'. Refute it at one input. -/
def icmaAddsWrong : ChangeSpec := { name := "icmaAdds", fn := fun _ => fun
  | [d] => { results := [.lit (.bool false)], args := [d] }
  | _ => none }
def IcmaAddsWrongFalsely : Prop := icmaAddsRow.holds Tryd.pinned (OpenSpec.ofChange icmaAddsWrong)

/-- 'demurragelaw09.IcmaWhole': WHATEVER THE INPUT: true; the input reads as it did. -/
def icmaWholeSpec : ChangeSpec := { name := "icmaWhole", fn := fun _ => fun
  | [d] => { results := [.lit (.bool true)], args := [d] }
  | _ => none }
def icmaWholeRow : OpenClaim := { program := "ytcplfgmajbadmaadoor", sum := "055d595255b8bdbe719a1b7b719cedbf18935cc08a6baf67372664f5857b8296", func := "demurrage/demurragelaw09.IcmaWhole", spec := "icmaWhole", inPlace := ["internal/reflectlite.ValueOf", "(internal/reflectlite.Value).Type", "(internal/reflectlite.Value).IsNil", "internal/reflectlite.TypeOf", "(internal/reflectlite.Value).Elem", "(internal/reflectlite.Value).Set", "math/bits.Add64"], unfollowed := true, recurses := true, named := ["demurrage/icma.errNoDay", "demurrage/icma.errOrder", "demurrage/icma.errOutside", "demurrage/civil.lengths", "demurrage/icma.errMany", "demurrage/icma.errFalls", "demurrage/icma.errEmpty", "demurrage/icma.errFreq", "errors.errorType", "math/bits.divideError", "math/bits.overflowError"], apart := false, laid := [("demurrage/civil.lengths", laid_demurrage_civil_lengths), ("errors.errorType", laid_errors_errorType), ("demurrage/icma.errNoDay", laid_demurrage_icma_errNoDay), ("demurrage/icma.errOrder", laid_demurrage_icma_errOrder), ("demurrage/icma.errMany", laid_demurrage_icma_errMany), ("demurrage/icma.errFalls", laid_demurrage_icma_errFalls), ("demurrage/icma.errEmpty", laid_demurrage_icma_errEmpty), ("demurrage/icma.errFreq", laid_demurrage_icma_errFreq), ("demurrage/icma.errOutside", laid_demurrage_icma_errOutside)] }
def IcmaWholeSaid : Prop := icmaWholeRow.holds Tryd.pinned (OpenSpec.ofChange icmaWholeSpec)

/-- ITS FALSE NEIGHBOUR: 'it returns false'. Refute it at one input. -/
def icmaWholeWrong : ChangeSpec := { name := "icmaWhole", fn := fun _ => fun
  | [d] => { results := [.lit (.bool false)], args := [d] }
  | _ => none }
def IcmaWholeWrongFalsely : Prop := icmaWholeRow.holds Tryd.pinned (OpenSpec.ofChange icmaWholeWrong)

/-- 'demurragelaw09.IcmaSplit': WHATEVER THE INPUT: true; the input reads as it did. -/
def icmaSplitSpec : ChangeSpec := { name := "icmaSplit", fn := fun _ => fun
  | [d] => { results := [.lit (.bool true)], args := [d] }
  | _ => none }
def icmaSplitRow : OpenClaim := { program := "ytcplfgmajbadmaadoor", sum := "055d595255b8bdbe719a1b7b719cedbf18935cc08a6baf67372664f5857b8296", func := "demurrage/demurragelaw09.IcmaSplit", spec := "icmaSplit", inPlace := ["internal/reflectlite.ValueOf", "(internal/reflectlite.Value).Type", "(internal/reflectlite.Value).IsNil", "internal/reflectlite.TypeOf", "(internal/reflectlite.Value).Elem", "(internal/reflectlite.Value).Set", "math/bits.Add64"], unfollowed := true, recurses := true, named := ["demurrage/icma.errNoDay", "demurrage/icma.errOrder", "demurrage/icma.errOutside", "demurrage/civil.lengths", "demurrage/icma.errMany", "demurrage/icma.errFalls", "demurrage/icma.errEmpty", "demurrage/icma.errFreq", "errors.errorType", "math/bits.divideError", "math/bits.overflowError"], apart := false, laid := [("demurrage/civil.lengths", laid_demurrage_civil_lengths), ("errors.errorType", laid_errors_errorType), ("demurrage/icma.errNoDay", laid_demurrage_icma_errNoDay), ("demurrage/icma.errOrder", laid_demurrage_icma_errOrder), ("demurrage/icma.errMany", laid_demurrage_icma_errMany), ("demurrage/icma.errFalls", laid_demurrage_icma_errFalls), ("demurrage/icma.errEmpty", laid_demurrage_icma_errEmpty), ("demurrage/icma.errFreq", laid_demurrage_icma_errFreq), ("demurrage/icma.errOutside", laid_demurrage_icma_errOutside)] }
def IcmaSplitSaid : Prop := icmaSplitRow.holds Tryd.pinned (OpenSpec.ofChange icmaSplitSpec)

/-- ITS FALSE NEIGHBOUR: 'it returns false'. Refute it at one input. -/
def icmaSplitWrong : ChangeSpec := { name := "icmaSplit", fn := fun _ => fun
  | [d] => { results := [.lit (.bool false)], args := [d] }
  | _ => none }
def IcmaSplitWrongFalsely : Prop := icmaSplitRow.holds Tryd.pinned (OpenSpec.ofChange icmaSplitWrong)

/-- 'demurragelaw09.IcmaScales': WHATEVER THE INPUT: true; the input reads as it did. -/
def icmaScalesSpec : ChangeSpec := { name := "icmaScales", fn := fun _ => fun
  | [d] => { results := [.lit (.bool true)], args := [d] }
  | _ => none }
def icmaScalesRow : OpenClaim := { program := "ytcplfgmajbadmaadoor", sum := "055d595255b8bdbe719a1b7b719cedbf18935cc08a6baf67372664f5857b8296", func := "demurrage/demurragelaw09.IcmaScales", spec := "icmaScales", inPlace := ["internal/reflectlite.ValueOf", "(internal/reflectlite.Value).Type", "(internal/reflectlite.Value).IsNil", "internal/reflectlite.TypeOf", "(internal/reflectlite.Value).Elem", "(internal/reflectlite.Value).Set", "math/bits.Add64"], unfollowed := true, recurses := true, named := ["demurrage/icma.errNoDay", "demurrage/icma.errOrder", "demurrage/icma.errOutside", "demurrage/civil.lengths", "demurrage/icma.errMany", "demurrage/icma.errFalls", "demurrage/icma.errEmpty", "demurrage/icma.errFreq", "errors.errorType", "math/bits.divideError", "math/bits.overflowError"], apart := false, laid := [("demurrage/civil.lengths", laid_demurrage_civil_lengths), ("errors.errorType", laid_errors_errorType), ("demurrage/icma.errNoDay", laid_demurrage_icma_errNoDay), ("demurrage/icma.errOrder", laid_demurrage_icma_errOrder), ("demurrage/icma.errMany", laid_demurrage_icma_errMany), ("demurrage/icma.errFalls", laid_demurrage_icma_errFalls), ("demurrage/icma.errEmpty", laid_demurrage_icma_errEmpty), ("demurrage/icma.errFreq", laid_demurrage_icma_errFreq), ("demurrage/icma.errOutside", laid_demurrage_icma_errOutside)] }
def IcmaScalesSaid : Prop := icmaScalesRow.holds Tryd.pinned (OpenSpec.ofChange icmaScalesSpec)

/-- ITS FALSE NEIGHBOUR: 'it returns false'. Refute it at one input. -/
def icmaScalesWrong : ChangeSpec := { name := "icmaScales", fn := fun _ => fun
  | [d] => { results := [.lit (.bool false)], args := [d] }
  | _ => none }
def IcmaScalesWrongFalsely : Prop := icmaScalesRow.holds Tryd.pinned (OpenSpec.ofChange icmaScalesWrong)

/- THE SECOND FORM. 'bulk': how many values and letters a reading holds, each counted each time it is reached (what is shared counts as often as it is met; a slice's spare places count too). A statement '..UptoSaid' is the law's where the arguments, and the package variables that the reading takes, are together of bulk at most 1048576: NARROWER than '..Said'. Prove '..Said' where nothing that the law and all that it calls make is longer than what came in: it says more and counts as full. Else prove '..UptoSaid'. A law counts once. -/
mutual
def uptoBulk {H : Type} : DataW H → Nat
  | .lit (.string bytes) => bytes.length + 1
  | .lit _ => 1
  | .nil => 1
  | .ptr d => uptoBulk d + 1
  | .slice elems spare => uptoBulkAll elems + uptoBulkAll spare + 1
  | .agg parts => uptoBulkAll parts + 1
  | .iface _ d => uptoBulk d + 1
  | .map entries => uptoBulkEntries entries + 1
  | .held _ => 1
def uptoBulkAll {H : Type} : List (DataW H) → Nat
  | [] => 0
  | d :: r => uptoBulk d + uptoBulkAll r
def uptoBulkEntries {H : Type} : List (Lit × DataW H) → Nat
  | [] => 0
  | x :: r => uptoBulkEntry x + uptoBulkEntries r
def uptoBulkEntry {H : Type} : Lit × DataW H → Nat
  | (.string bytes, d) => bytes.length + uptoBulk d + 1
  | (_, d) => uptoBulk d + 1
 end
def uptoSmall : (H : Type) → List (DataW H) → Bool := fun _ ds => decide (uptoBulkAll ds ≤ 1048576)
def OpenSpec.upto (s : _root_.Go.ChangeSpec) : _root_.Go.OpenSpec := { _root_.Go.OpenSpec.ofChange s with cond := some uptoSmall }

/-- 'demurragelaw09.IcmaTells', WHERE WHAT IT READS IS OF BULK AT MOST 1048576: true; the input reads as it did. -/
def icmaTellsUptoRow : OpenClaim := { program := "ytcplfgmajbadmaadoor", sum := "055d595255b8bdbe719a1b7b719cedbf18935cc08a6baf67372664f5857b8296", func := "demurrage/demurragelaw09.IcmaTells", spec := "icmaTells", inPlace := ["internal/reflectlite.ValueOf", "(internal/reflectlite.Value).Type", "(internal/reflectlite.Value).IsNil", "internal/reflectlite.TypeOf", "(internal/reflectlite.Value).Elem", "(internal/reflectlite.Value).Set", "math/bits.Add64"], unfollowed := true, recurses := true, named := ["demurrage/icma.errNoDay", "demurrage/icma.errOrder", "demurrage/icma.errOutside", "demurrage/civil.lengths", "demurrage/icma.errMany", "demurrage/icma.errFalls", "demurrage/icma.errEmpty", "demurrage/icma.errFreq", "errors.errorType", "math/bits.divideError", "math/bits.overflowError"], apart := false, laid := [("demurrage/civil.lengths", laid_demurrage_civil_lengths), ("errors.errorType", laid_errors_errorType), ("demurrage/icma.errNoDay", laid_demurrage_icma_errNoDay), ("demurrage/icma.errOrder", laid_demurrage_icma_errOrder), ("demurrage/icma.errMany", laid_demurrage_icma_errMany), ("demurrage/icma.errFalls", laid_demurrage_icma_errFalls), ("demurrage/icma.errEmpty", laid_demurrage_icma_errEmpty), ("demurrage/icma.errFreq", laid_demurrage_icma_errFreq), ("demurrage/icma.errOutside", laid_demurrage_icma_errOutside)], narrowed := true }
def IcmaTellsUptoSaid : Prop := icmaTellsUptoRow.holds Tryd.pinned (OpenSpec.upto icmaTellsSpec)

/-- 'demurragelaw09.IcmaAdds', WHERE WHAT IT READS IS OF BULK AT MOST 1048576: true; the input reads as it did. -/
def icmaAddsUptoRow : OpenClaim := { program := "ytcplfgmajbadmaadoor", sum := "055d595255b8bdbe719a1b7b719cedbf18935cc08a6baf67372664f5857b8296", func := "demurrage/demurragelaw09.IcmaAdds", spec := "icmaAdds", inPlace := ["internal/reflectlite.ValueOf", "(internal/reflectlite.Value).Type", "(internal/reflectlite.Value).IsNil", "internal/reflectlite.TypeOf", "(internal/reflectlite.Value).Elem", "(internal/reflectlite.Value).Set", "math/bits.Add64"], unfollowed := true, recurses := true, named := ["demurrage/icma.errNoDay", "demurrage/icma.errOrder", "demurrage/icma.errOutside", "demurrage/civil.lengths", "demurrage/icma.errMany", "demurrage/icma.errFalls", "demurrage/icma.errEmpty", "demurrage/icma.errFreq", "errors.errorType", "math/bits.divideError", "math/bits.overflowError"], apart := false, laid := [("demurrage/civil.lengths", laid_demurrage_civil_lengths), ("errors.errorType", laid_errors_errorType), ("demurrage/icma.errNoDay", laid_demurrage_icma_errNoDay), ("demurrage/icma.errOrder", laid_demurrage_icma_errOrder), ("demurrage/icma.errMany", laid_demurrage_icma_errMany), ("demurrage/icma.errFalls", laid_demurrage_icma_errFalls), ("demurrage/icma.errEmpty", laid_demurrage_icma_errEmpty), ("demurrage/icma.errFreq", laid_demurrage_icma_errFreq), ("demurrage/icma.errOutside", laid_demurrage_icma_errOutside)], narrowed := true }
def IcmaAddsUptoSaid : Prop := icmaAddsUptoRow.holds Tryd.pinned (OpenSpec.upto icmaAddsSpec)

/-- 'demurragelaw09.IcmaWhole', WHERE WHAT IT READS IS OF BULK AT MOST 1048576: true; the input reads as it did. -/
def icmaWholeUptoRow : OpenClaim := { program := "ytcplfgmajbadmaadoor", sum := "055d595255b8bdbe719a1b7b719cedbf18935cc08a6baf67372664f5857b8296", func := "demurrage/demurragelaw09.IcmaWhole", spec := "icmaWhole", inPlace := ["internal/reflectlite.ValueOf", "(internal/reflectlite.Value).Type", "(internal/reflectlite.Value).IsNil", "internal/reflectlite.TypeOf", "(internal/reflectlite.Value).Elem", "(internal/reflectlite.Value).Set", "math/bits.Add64"], unfollowed := true, recurses := true, named := ["demurrage/icma.errNoDay", "demurrage/icma.errOrder", "demurrage/icma.errOutside", "demurrage/civil.lengths", "demurrage/icma.errMany", "demurrage/icma.errFalls", "demurrage/icma.errEmpty", "demurrage/icma.errFreq", "errors.errorType", "math/bits.divideError", "math/bits.overflowError"], apart := false, laid := [("demurrage/civil.lengths", laid_demurrage_civil_lengths), ("errors.errorType", laid_errors_errorType), ("demurrage/icma.errNoDay", laid_demurrage_icma_errNoDay), ("demurrage/icma.errOrder", laid_demurrage_icma_errOrder), ("demurrage/icma.errMany", laid_demurrage_icma_errMany), ("demurrage/icma.errFalls", laid_demurrage_icma_errFalls), ("demurrage/icma.errEmpty", laid_demurrage_icma_errEmpty), ("demurrage/icma.errFreq", laid_demurrage_icma_errFreq), ("demurrage/icma.errOutside", laid_demurrage_icma_errOutside)], narrowed := true }
def IcmaWholeUptoSaid : Prop := icmaWholeUptoRow.holds Tryd.pinned (OpenSpec.upto icmaWholeSpec)

/-- 'demurragelaw09.IcmaSplit', WHERE WHAT IT READS IS OF BULK AT MOST 1048576: true; the input reads as it did. -/
def icmaSplitUptoRow : OpenClaim := { program := "ytcplfgmajbadmaadoor", sum := "055d595255b8bdbe719a1b7b719cedbf18935cc08a6baf67372664f5857b8296", func := "demurrage/demurragelaw09.IcmaSplit", spec := "icmaSplit", inPlace := ["internal/reflectlite.ValueOf", "(internal/reflectlite.Value).Type", "(internal/reflectlite.Value).IsNil", "internal/reflectlite.TypeOf", "(internal/reflectlite.Value).Elem", "(internal/reflectlite.Value).Set", "math/bits.Add64"], unfollowed := true, recurses := true, named := ["demurrage/icma.errNoDay", "demurrage/icma.errOrder", "demurrage/icma.errOutside", "demurrage/civil.lengths", "demurrage/icma.errMany", "demurrage/icma.errFalls", "demurrage/icma.errEmpty", "demurrage/icma.errFreq", "errors.errorType", "math/bits.divideError", "math/bits.overflowError"], apart := false, laid := [("demurrage/civil.lengths", laid_demurrage_civil_lengths), ("errors.errorType", laid_errors_errorType), ("demurrage/icma.errNoDay", laid_demurrage_icma_errNoDay), ("demurrage/icma.errOrder", laid_demurrage_icma_errOrder), ("demurrage/icma.errMany", laid_demurrage_icma_errMany), ("demurrage/icma.errFalls", laid_demurrage_icma_errFalls), ("demurrage/icma.errEmpty", laid_demurrage_icma_errEmpty), ("demurrage/icma.errFreq", laid_demurrage_icma_errFreq), ("demurrage/icma.errOutside", laid_demurrage_icma_errOutside)], narrowed := true }
def IcmaSplitUptoSaid : Prop := icmaSplitUptoRow.holds Tryd.pinned (OpenSpec.upto icmaSplitSpec)

/-- 'demurragelaw09.IcmaScales', WHERE WHAT IT READS IS OF BULK AT MOST 1048576: true; the input reads as it did. -/
def icmaScalesUptoRow : OpenClaim := { program := "ytcplfgmajbadmaadoor", sum := "055d595255b8bdbe719a1b7b719cedbf18935cc08a6baf67372664f5857b8296", func := "demurrage/demurragelaw09.IcmaScales", spec := "icmaScales", inPlace := ["internal/reflectlite.ValueOf", "(internal/reflectlite.Value).Type", "(internal/reflectlite.Value).IsNil", "internal/reflectlite.TypeOf", "(internal/reflectlite.Value).Elem", "(internal/reflectlite.Value).Set", "math/bits.Add64"], unfollowed := true, recurses := true, named := ["demurrage/icma.errNoDay", "demurrage/icma.errOrder", "demurrage/icma.errOutside", "demurrage/civil.lengths", "demurrage/icma.errMany", "demurrage/icma.errFalls", "demurrage/icma.errEmpty", "demurrage/icma.errFreq", "errors.errorType", "math/bits.divideError", "math/bits.overflowError"], apart := false, laid := [("demurrage/civil.lengths", laid_demurrage_civil_lengths), ("errors.errorType", laid_errors_errorType), ("demurrage/icma.errNoDay", laid_demurrage_icma_errNoDay), ("demurrage/icma.errOrder", laid_demurrage_icma_errOrder), ("demurrage/icma.errMany", laid_demurrage_icma_errMany), ("demurrage/icma.errFalls", laid_demurrage_icma_errFalls), ("demurrage/icma.errEmpty", laid_demurrage_icma_errEmpty), ("demurrage/icma.errFreq", laid_demurrage_icma_errFreq), ("demurrage/icma.errOutside", laid_demurrage_icma_errOutside)], narrowed := true }
def IcmaScalesUptoSaid : Prop := icmaScalesUptoRow.holds Tryd.pinned (OpenSpec.upto icmaScalesSpec)

end Rows
end Go.Proofs.YtcplfgmajbadmaaDoor
