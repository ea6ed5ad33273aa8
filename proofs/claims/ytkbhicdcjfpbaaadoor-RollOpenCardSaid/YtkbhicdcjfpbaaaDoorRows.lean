/-
  NARROWER THAN 'FOR EVERY INPUT', by the rows' own cells (each row's printed sentence says how): RollTells: laid · RollNearest: laid · RollMonth: laid · RollRises: laid · RollOpen: laid · RollTwins: laid.
  DERIVED. THE GIVEN ROWS OF THIS SEAT. 6 by the template 'for every input the law returns true; each argument reads behind the call as it read before'; 0 by the template 'total and deterministic' (their statements: YtkbhicdcjfpbaaaDoorTotals.lean).
  GIVEN WITH THE SEED: the statements are not yours to turn. If you find one false, say at which input.
  Laid BY PROGRAM, IN A SANDBOX (cutbox-rows.mjs): the forced cells as the released guide's own fill.sh prints them over the translation f3769fca4022086d… (all of the seat's roots in one cut). By AI agents, Wed Nov 11 2026. No macro, syntax, notation, axiom, sorry.
-/
import Derived.Test.YtkbhicdcjfpbaaaDoorChecked
import GoSem.Claim
import GoSem.ClaimJoined
import GoSem.ClaimMapViews
import Derived.JoinedTies
import Derived.KernelRfl
namespace Go.Proofs.YtkbhicdcjfpbaaaDoor
/- THE CELL 'sum', in the pinned program and in every row, IS THE sha256 OF THE DUMP (.gsa) THAT YtkbhicdcjfpbaaaDoorProg.lean LOADS. Nothing in Lean hashes anything: it is a label: what it is worth is what the hold of that sum in a sandbox is worth. -/
noncomputable def Tryd.pinned : Pinned := { name := "ytkbhicdcjfpbaaadoor", sum := "f3769fca4022086da9768755bd4e6e79cd4b25840dbc393c7494a8919f20a651", checked := Tryd.checked }
namespace Rows
def none {H : Type} : Left H := { results := [], args := [] }

/- WHAT THE LISTED PACKAGE-LEVEL VARIABLES READ AS WHEN THE CALL BEGINS. Each datum BY PROGRAM (the guide's laid-datum.mjs) off the statement by which the dump's own 'gosem.cut.vars' lays the variable. In a bare row this is a premise. The card (YtkbhicdcjfpbaaaDoorCards.lean) ties it to the program's text. -/
def laid_demurrage_civil_lengths {H : Type} : DataW H := .agg [.lit (.int .i64 31), .lit (.int .i64 28), .lit (.int .i64 31), .lit (.int .i64 30), .lit (.int .i64 31), .lit (.int .i64 30), .lit (.int .i64 31), .lit (.int .i64 31), .lit (.int .i64 30), .lit (.int .i64 31), .lit (.int .i64 30), .lit (.int .i64 31)]
def laid_demurrage_roll_names {H : Type} : DataW H := .agg [.lit (.string [110, 111, 110, 101]), .lit (.string [102, 111, 108, 108, 111, 119, 105, 110, 103]), .lit (.string [109, 111, 100, 102, 111, 108, 108, 111, 119, 105, 110, 103]), .lit (.string [112, 114, 101, 99, 101, 100, 105, 110, 103]), .lit (.string [109, 111, 100, 112, 114, 101, 99, 101, 100, 105, 110, 103])]

/-- 'demurragelaw14.RollTells': WHATEVER THE INPUT: true; the input reads as it did. -/
def rollTellsSpec : ChangeSpec := { name := "rollTells", fn := fun _ => fun
  | [d] => { results := [.lit (.bool true)], args := [d] }
  | _ => none }
def rollTellsRow : OpenClaim := { program := "ytkbhicdcjfpbaaadoor", sum := "f3769fca4022086da9768755bd4e6e79cd4b25840dbc393c7494a8919f20a651", func := "demurrage/demurragelaw14.RollTells", spec := "rollTells", unfollowed := true, recurses := true, named := ["demurrage/civil.lengths", "demurrage/roll.names"], apart := false, laid := [("demurrage/civil.lengths", laid_demurrage_civil_lengths), ("demurrage/roll.names", laid_demurrage_roll_names)] }
def RollTellsSaid : Prop := rollTellsRow.holds Tryd.pinned (OpenSpec.ofChange rollTellsSpec)

/-- ITS FALSE NEIGHBOUR: 'it returns false'. Refute it at one input. -/
def rollTellsWrong : ChangeSpec := { name := "rollTells", fn := fun _ => fun
  | [d] => { results := [.lit (.bool false)], args := [d] }
  | _ => none }
def RollTellsWrongFalsely : Prop := rollTellsRow.holds Tryd.pinned (OpenSpec.ofChange rollTellsWrong)

/-- 'demurragelaw14.RollNearest': WHATEVER THE INPUT: true; the input reads as it did. -/
def rollNearestSpec : ChangeSpec := { name := "rollNearest", fn := fun _ => fun
  | [d1, d2, d3] => { results := [.lit (.bool true)], args := [d1, d2, d3] }
  | _ => none }
def rollNearestRow : OpenClaim := { program := "ytkbhicdcjfpbaaadoor", sum := "f3769fca4022086da9768755bd4e6e79cd4b25840dbc393c7494a8919f20a651", func := "demurrage/demurragelaw14.RollNearest", spec := "rollNearest", unfollowed := true, recurses := true, named := ["demurrage/civil.lengths", "demurrage/roll.names"], apart := false, laid := [("demurrage/civil.lengths", laid_demurrage_civil_lengths), ("demurrage/roll.names", laid_demurrage_roll_names)] }
def RollNearestSaid : Prop := rollNearestRow.holds Tryd.pinned (OpenSpec.ofChange rollNearestSpec)

/-- ITS FALSE NEIGHBOUR: 'it returns false'. Refute it at one input. -/
def rollNearestWrong : ChangeSpec := { name := "rollNearest", fn := fun _ => fun
  | [d1, d2, d3] => { results := [.lit (.bool false)], args := [d1, d2, d3] }
  | _ => none }
def RollNearestWrongFalsely : Prop := rollNearestRow.holds Tryd.pinned (OpenSpec.ofChange rollNearestWrong)

/-- 'demurragelaw14.RollMonth': WHATEVER THE INPUT: true; the input reads as it did. -/
def rollMonthSpec : ChangeSpec := { name := "rollMonth", fn := fun _ => fun
  | [d1, d2] => { results := [.lit (.bool true)], args := [d1, d2] }
  | _ => none }
def rollMonthRow : OpenClaim := { program := "ytkbhicdcjfpbaaadoor", sum := "f3769fca4022086da9768755bd4e6e79cd4b25840dbc393c7494a8919f20a651", func := "demurrage/demurragelaw14.RollMonth", spec := "rollMonth", unfollowed := true, recurses := true, named := ["demurrage/civil.lengths", "demurrage/roll.names"], apart := false, laid := [("demurrage/civil.lengths", laid_demurrage_civil_lengths), ("demurrage/roll.names", laid_demurrage_roll_names)] }
def RollMonthSaid : Prop := rollMonthRow.holds Tryd.pinned (OpenSpec.ofChange rollMonthSpec)

/-- ITS FALSE NEIGHBOUR: 'it returns false'. Refute it at one input. -/
def rollMonthWrong : ChangeSpec := { name := "rollMonth", fn := fun _ => fun
  | [d1, d2] => { results := [.lit (.bool false)], args := [d1, d2] }
  | _ => none }
def RollMonthWrongFalsely : Prop := rollMonthRow.holds Tryd.pinned (OpenSpec.ofChange rollMonthWrong)

/-- 'demurragelaw14.RollRises': WHATEVER THE INPUT: true; the input reads as it did. -/
def rollRisesSpec : ChangeSpec := { name := "rollRises", fn := fun _ => fun
  | [d] => { results := [.lit (.bool true)], args := [d] }
  | _ => none }
def rollRisesRow : OpenClaim := { program := "ytkbhicdcjfpbaaadoor", sum := "f3769fca4022086da9768755bd4e6e79cd4b25840dbc393c7494a8919f20a651", func := "demurrage/demurragelaw14.RollRises", spec := "rollRises", unfollowed := true, recurses := true, named := ["demurrage/civil.lengths", "demurrage/roll.names"], apart := false, laid := [("demurrage/civil.lengths", laid_demurrage_civil_lengths), ("demurrage/roll.names", laid_demurrage_roll_names)] }
def RollRisesSaid : Prop := rollRisesRow.holds Tryd.pinned (OpenSpec.ofChange rollRisesSpec)

/-- ITS FALSE NEIGHBOUR: 'it returns false'. Refute it at one input. -/
def rollRisesWrong : ChangeSpec := { name := "rollRises", fn := fun _ => fun
  | [d] => { results := [.lit (.bool false)], args := [d] }
  | _ => none }
def RollRisesWrongFalsely : Prop := rollRisesRow.holds Tryd.pinned (OpenSpec.ofChange rollRisesWrong)

/-- 'demurragelaw14.RollOpen': WHATEVER THE INPUT: true; the input reads as it did. -/
def rollOpenSpec : ChangeSpec := { name := "rollOpen", fn := fun _ => fun
  | [d1, d2, d3] => { results := [.lit (.bool true)], args := [d1, d2, d3] }
  | _ => none }
def rollOpenRow : OpenClaim := { program := "ytkbhicdcjfpbaaadoor", sum := "f3769fca4022086da9768755bd4e6e79cd4b25840dbc393c7494a8919f20a651", func := "demurrage/demurragelaw14.RollOpen", spec := "rollOpen", unfollowed := true, recurses := true, named := ["demurrage/civil.lengths", "demurrage/roll.names"], apart := false, laid := [("demurrage/civil.lengths", laid_demurrage_civil_lengths), ("demurrage/roll.names", laid_demurrage_roll_names)] }
def RollOpenSaid : Prop := rollOpenRow.holds Tryd.pinned (OpenSpec.ofChange rollOpenSpec)

/-- ITS FALSE NEIGHBOUR: 'it returns false'. Refute it at one input. -/
def rollOpenWrong : ChangeSpec := { name := "rollOpen", fn := fun _ => fun
  | [d1, d2, d3] => { results := [.lit (.bool false)], args := [d1, d2, d3] }
  | _ => none }
def RollOpenWrongFalsely : Prop := rollOpenRow.holds Tryd.pinned (OpenSpec.ofChange rollOpenWrong)

/-- 'demurragelaw14.RollTwins': WHATEVER THE INPUT: true; the input reads as it did. -/
def rollTwinsSpec : ChangeSpec := { name := "rollTwins", fn := fun _ => fun
  | [d1, d2] => { results := [.lit (.bool true)], args := [d1, d2] }
  | _ => none }
def rollTwinsRow : OpenClaim := { program := "ytkbhicdcjfpbaaadoor", sum := "f3769fca4022086da9768755bd4e6e79cd4b25840dbc393c7494a8919f20a651", func := "demurrage/demurragelaw14.RollTwins", spec := "rollTwins", unfollowed := true, recurses := true, named := ["demurrage/civil.lengths", "demurrage/roll.names"], apart := false, laid := [("demurrage/civil.lengths", laid_demurrage_civil_lengths), ("demurrage/roll.names", laid_demurrage_roll_names)] }
def RollTwinsSaid : Prop := rollTwinsRow.holds Tryd.pinned (OpenSpec.ofChange rollTwinsSpec)

/-- ITS FALSE NEIGHBOUR: 'it returns false'. Refute it at one input. -/
def rollTwinsWrong : ChangeSpec := { name := "rollTwins", fn := fun _ => fun
  | [d1, d2] => { results := [.lit (.bool false)], args := [d1, d2] }
  | _ => none }
def RollTwinsWrongFalsely : Prop := rollTwinsRow.holds Tryd.pinned (OpenSpec.ofChange rollTwinsWrong)

/- THE SECOND FORM. 'bulk': how many values and letters a reading holds, each counted each time it is reached (what is shared counts as often as it is met; a slice's spare places count too). A statement '..UptoSaid' is the law's where the arguments, and the package variables that the reading takes, are together of bulk at most 1048576: NARROWER than '..Said'. Prove '..Said' where nothing that the law and all that it calls make is longer than what came in: it says more and counts as full. Else prove '..UptoSaid'. A law counts once. -/
mutual
def uptoBulk {H : Type} : DataW H → Nat
  | .lit (.string bytes) => bytes.length + 1
  | .lit _ => 1
  | .nil => 1
  | .ptr d => uptoBulk d + 1
  | .slice elems spare => uptoBulkAll elems + uptoBulkAll spare + 1
  | .agg parts => uptoBulkAll parts + 1
  | .iface _ d => uptoBulk d + 1
  | .map entries => uptoBulkEntries entries + 1
  | .held _ => 1
def uptoBulkAll {H : Type} : List (DataW H) → Nat
  | [] => 0
  | d :: r => uptoBulk d + uptoBulkAll r
def uptoBulkEntries {H : Type} : List (Lit × DataW H) → Nat
  | [] => 0
  | x :: r => uptoBulkEntry x + uptoBulkEntries r
def uptoBulkEntry {H : Type} : Lit × DataW H → Nat
  | (.string bytes, d) => bytes.length + uptoBulk d + 1
  | (_, d) => uptoBulk d + 1
 end
def uptoSmall : (H : Type) → List (DataW H) → Bool := fun _ ds => decide (uptoBulkAll ds ≤ 1048576)
def OpenSpec.upto (s : _root_.Go.ChangeSpec) : _root_.Go.OpenSpec := { _root_.Go.OpenSpec.ofChange s with cond := some uptoSmall }

/-- 'demurragelaw14.RollTells', WHERE WHAT IT READS IS OF BULK AT MOST 1048576: true; the input reads as it did. -/
def rollTellsUptoRow : OpenClaim := { program := "ytkbhicdcjfpbaaadoor", sum := "f3769fca4022086da9768755bd4e6e79cd4b25840dbc393c7494a8919f20a651", func := "demurrage/demurragelaw14.RollTells", spec := "rollTells", unfollowed := true, recurses := true, named := ["demurrage/civil.lengths", "demurrage/roll.names"], apart := false, laid := [("demurrage/civil.lengths", laid_demurrage_civil_lengths), ("demurrage/roll.names", laid_demurrage_roll_names)], narrowed := true }
def RollTellsUptoSaid : Prop := rollTellsUptoRow.holds Tryd.pinned (OpenSpec.upto rollTellsSpec)

/-- 'demurragelaw14.RollNearest', WHERE WHAT IT READS IS OF BULK AT MOST 1048576: true; the input reads as it did. -/
def rollNearestUptoRow : OpenClaim := { program := "ytkbhicdcjfpbaaadoor", sum := "f3769fca4022086da9768755bd4e6e79cd4b25840dbc393c7494a8919f20a651", func := "demurrage/demurragelaw14.RollNearest", spec := "rollNearest", unfollowed := true, recurses := true, named := ["demurrage/civil.lengths", "demurrage/roll.names"], apart := false, laid := [("demurrage/civil.lengths", laid_demurrage_civil_lengths), ("demurrage/roll.names", laid_demurrage_roll_names)], narrowed := true }
def RollNearestUptoSaid : Prop := rollNearestUptoRow.holds Tryd.pinned (OpenSpec.upto rollNearestSpec)

/-- 'demurragelaw14.RollMonth', WHERE WHAT IT READS IS OF BULK AT MOST 1048576: true; the input reads as it did. -/
def rollMonthUptoRow : OpenClaim := { program := "ytkbhicdcjfpbaaadoor", sum := "f3769fca4022086da9768755bd4e6e79cd4b25840dbc393c7494a8919f20a651", func := "demurrage/demurragelaw14.RollMonth", spec := "rollMonth", unfollowed := true, recurses := true, named := ["demurrage/civil.lengths", "demurrage/roll.names"], apart := false, laid := [("demurrage/civil.lengths", laid_demurrage_civil_lengths), ("demurrage/roll.names", laid_demurrage_roll_names)], narrowed := true }
def RollMonthUptoSaid : Prop := rollMonthUptoRow.holds Tryd.pinned (OpenSpec.upto rollMonthSpec)

/-- 'demurragelaw14.RollRises', WHERE WHAT IT READS IS OF BULK AT MOST 1048576: true; the input reads as it did. -/
def rollRisesUptoRow : OpenClaim := { program := "ytkbhicdcjfpbaaadoor", sum := "f3769fca4022086da9768755bd4e6e79cd4b25840dbc393c7494a8919f20a651", func := "demurrage/demurragelaw14.RollRises", spec := "rollRises", unfollowed := true, recurses := true, named := ["demurrage/civil.lengths", "demurrage/roll.names"], apart := false, laid := [("demurrage/civil.lengths", laid_demurrage_civil_lengths), ("demurrage/roll.names", laid_demurrage_roll_names)], narrowed := true }
def RollRisesUptoSaid : Prop := rollRisesUptoRow.holds Tryd.pinned (OpenSpec.upto rollRisesSpec)

/-- 'demurragelaw14.RollOpen', WHERE WHAT IT READS IS OF BULK AT MOST 1048576: true; the input reads as it did. -/
def rollOpenUptoRow : OpenClaim := { program := "ytkbhicdcjfpbaaadoor", sum := "f3769fca4022086da9768755bd4e6e79cd4b25840dbc393c7494a8919f20a651", func := "demurrage/demurragelaw14.RollOpen", spec := "rollOpen", unfollowed := true, recurses := true, named := ["demurrage/civil.lengths", "demurrage/roll.names"], apart := false, laid := [("demurrage/civil.lengths", laid_demurrage_civil_lengths), ("demurrage/roll.names", laid_demurrage_roll_names)], narrowed := true }
def RollOpenUptoSaid : Prop := rollOpenUptoRow.holds Tryd.pinned (OpenSpec.upto rollOpenSpec)

/-- 'demurragelaw14.RollTwins', WHERE WHAT IT READS IS OF BULK AT MOST 1048576: true; the input reads as it did. -/
def rollTwinsUptoRow : OpenClaim := { program := "ytkbhicdcjfpbaaadoor", sum := "f3769fca4022086da9768755bd4e6e79cd4b25840dbc393c7494a8919f20a651", func := "demurrage/demurragelaw14.RollTwins", spec := "rollTwins", unfollowed := true, recurses := true, named := ["demurrage/civil.lengths", "demurrage/roll.names"], apart := false, laid := [("demurrage/civil.lengths", laid_demurrage_civil_lengths), ("demurrage/roll.names", laid_demurrage_roll_names)], narrowed := true }
def RollTwinsUptoSaid : Prop := rollTwinsUptoRow.holds Tryd.pinned (OpenSpec.upto rollTwinsSpec)

end Rows
end Go.Proofs.YtkbhicdcjfpbaaaDoor
