/-
  NARROWER THAN 'FOR EVERY INPUT', by the rows' own cells (each row's printed sentence says how): EasterTells: laid · EasterSunday: laid · EasterRound: laid · EasterApart: laid.
  DERIVED. THE GIVEN ROWS OF THIS SEAT. 4 by the template 'for every input the law returns true; each argument reads behind the call as it read before'; 0 by the template 'total and deterministic' (their statements: YtlhopmipcibgcaaDoorTotals.lean).
  GIVEN WITH THE SEED: the statements are not yours to turn. If you find one false, say at which input.
  Laid BY PROGRAM, IN A SANDBOX (cutbox-rows.mjs): the forced cells as the released guide's own fill.sh prints them over the translation 183786e4af5d4dce… (all of the seat's roots in one cut). By AI agents, Wed Nov 11 2026. No macro, syntax, notation, axiom, sorry.
-/
import Derived.Test.YtlhopmipcibgcaaDoorChecked
import GoSem.Claim
import GoSem.ClaimJoined
import GoSem.ClaimMapViews
import Derived.JoinedTies
import Derived.KernelRfl
namespace Go.Proofs.YtlhopmipcibgcaaDoor
/- THE CELL 'sum', in the pinned program and in every row, IS THE sha256 OF THE DUMP (.gsa) THAT YtlhopmipcibgcaaDoorProg.lean LOADS. Nothing in Lean hashes anything: it is a label: what it is worth is what the hold of that sum in a sandbox is worth. -/
noncomputable def Tryd.pinned : Pinned := { name := "ytlhopmipcibgcaadoor", sum := "183786e4af5d4dce6577218f9c68d58a44cf3009b4a60e4605b3d8d96a024882", checked := Tryd.checked }
namespace Rows
def none {H : Type} : Left H := { results := [], args := [] }

/- WHAT THE LISTED PACKAGE-LEVEL VARIABLES READ AS WHEN THE CALL BEGINS. Each datum BY PROGRAM (the guide's laid-datum.mjs) off the statement by which the dump's own 'gosem.cut.vars' lays the variable. In a bare row this is a premise. The card (YtlhopmipcibgcaaDoorCards.lean) ties it to the program's text. -/
def laid_demurrage_civil_lengths {H : Type} : DataW H := .agg [.lit (.int .i64 31), .lit (.int .i64 28), .lit (.int .i64 31), .lit (.int .i64 30), .lit (.int .i64 31), .lit (.int .i64 30), .lit (.int .i64 31), .lit (.int .i64 31), .lit (.int .i64 30), .lit (.int .i64 31), .lit (.int .i64 30), .lit (.int .i64 31)]

/-- 'demurragelaw11.EasterTells': WHATEVER THE INPUT: true; the input reads as it did. -/
def easterTellsSpec : ChangeSpec := { name := "easterTells", fn := fun _ => fun
  | [d] => { results := [.lit (.bool true)], args := [d] }
  | _ => none }
def easterTellsRow : OpenClaim := { program := "ytlhopmipcibgcaadoor", sum := "183786e4af5d4dce6577218f9c68d58a44cf3009b4a60e4605b3d8d96a024882", func := "demurrage/demurragelaw11.EasterTells", spec := "easterTells", unfollowed := true, recurses := true, named := ["demurrage/civil.lengths"], apart := false, laid := [("demurrage/civil.lengths", laid_demurrage_civil_lengths)] }
def EasterTellsSaid : Prop := easterTellsRow.holds Tryd.pinned (OpenSpec.ofChange easterTellsSpec)

/-- ITS FALSE NEIGHBOUR: 'it returns false'. Refute it at one input. -/
def easterTellsWrong : ChangeSpec := { name := "easterTells", fn := fun _ => fun
  | [d] => { results := [.lit (.bool false)], args := [d] }
  | _ => none }
def EasterTellsWrongFalsely : Prop := easterTellsRow.holds Tryd.pinned (OpenSpec.ofChange easterTellsWrong)

/-- 'demurragelaw11.EasterSunday': WHATEVER THE INPUT: true; the input reads as it did. -/
def easterSundaySpec : ChangeSpec := { name := "easterSunday", fn := fun _ => fun
  | [d] => { results := [.lit (.bool true)], args := [d] }
  | _ => none }
def easterSundayRow : OpenClaim := { program := "ytlhopmipcibgcaadoor", sum := "183786e4af5d4dce6577218f9c68d58a44cf3009b4a60e4605b3d8d96a024882", func := "demurrage/demurragelaw11.EasterSunday", spec := "easterSunday", unfollowed := true, recurses := true, named := ["demurrage/civil.lengths"], apart := false, laid := [("demurrage/civil.lengths", laid_demurrage_civil_lengths)] }
def EasterSundaySaid : Prop := easterSundayRow.holds Tryd.pinned (OpenSpec.ofChange easterSundaySpec)

/-- ITS FALSE NEIGHBOUR: 'it returns false'. Refute it at one input. -/
def easterSundayWrong : ChangeSpec := { name := "easterSunday", fn := fun _ => fun
  | [d] => { results := [.lit (.bool false)], args := [d] }
  | _ => none }
def EasterSundayWrongFalsely : Prop := easterSundayRow.holds Tryd.pinned (OpenSpec.ofChange easterSundayWrong)

/-- 'demurragelaw11.EasterRound': WHATEVER THE INPUT: true; the input reads as it did. -/
def easterRoundSpec : ChangeSpec := { name := "easterRound", fn := fun _ => fun
  | [d] => { results := [.lit (.bool true)], args := [d] }
  | _ => none }
def easterRoundRow : OpenClaim := { program := "ytlhopmipcibgcaadoor", sum := "183786e4af5d4dce6577218f9c68d58a44cf3009b4a60e4605b3d8d96a024882", func := "demurrage/demurragelaw11.EasterRound", spec := "easterRound", unfollowed := true, recurses := true, named := ["demurrage/civil.lengths"], apart := false, laid := [("demurrage/civil.lengths", laid_demurrage_civil_lengths)] }
def EasterRoundSaid : Prop := easterRoundRow.holds Tryd.pinned (OpenSpec.ofChange easterRoundSpec)

/-- ITS FALSE NEIGHBOUR: 'it returns false'. Refute it at one input. -/
def easterRoundWrong : ChangeSpec := { name := "easterRound", fn := fun _ => fun
  | [d] => { results := [.lit (.bool false)], args := [d] }
  | _ => none }
def EasterRoundWrongFalsely : Prop := easterRoundRow.holds Tryd.pinned (OpenSpec.ofChange easterRoundWrong)

/-- 'demurragelaw11.EasterApart': WHATEVER THE INPUT: true; the input reads as it did. -/
def easterApartSpec : ChangeSpec := { name := "easterApart", fn := fun _ => fun
  | [d] => { results := [.lit (.bool true)], args := [d] }
  | _ => none }
def easterApartRow : OpenClaim := { program := "ytlhopmipcibgcaadoor", sum := "183786e4af5d4dce6577218f9c68d58a44cf3009b4a60e4605b3d8d96a024882", func := "demurrage/demurragelaw11.EasterApart", spec := "easterApart", unfollowed := true, recurses := true, named := ["demurrage/civil.lengths"], apart := false, laid := [("demurrage/civil.lengths", laid_demurrage_civil_lengths)] }
def EasterApartSaid : Prop := easterApartRow.holds Tryd.pinned (OpenSpec.ofChange easterApartSpec)

/-- ITS FALSE NEIGHBOUR: 'it returns false'. Refute it at one input. -/
def easterApartWrong : ChangeSpec := { name := "easterApart", fn := fun _ => fun
  | [d] => { results := [.lit (.bool false)], args := [d] }
  | _ => none }
def EasterApartWrongFalsely : Prop := easterApartRow.holds Tryd.pinned (OpenSpec.ofChange easterApartWrong)

/- THE SECOND FORM. 'bulk': how many values and letters a reading holds, each counted each time it is reached (what is shared counts as often as it is met; a slice's spare places count too). A statement '..UptoSaid' is the law's where the arguments, and the package variables that the reading takes, are together of bulk at most 1048576: NARROWER than '..Said'. Prove '..Said' where nothing that the law and all that it calls make is longer than what came in: it says more and counts as full. Else prove '..UptoSaid'. A law counts once. -/
mutual
def uptoBulk {H : Type} : DataW H → Nat
  | .lit (.string bytes) => bytes.length + 1
  | .lit _ => 1
  | .nil => 1
  | .ptr d => uptoBulk d + 1
  | .slice elems spare => uptoBulkAll elems + uptoBulkAll spare + 1
  | .agg parts => uptoBulkAll parts + 1
  | .iface _ d => uptoBulk d + 1
  | .map entries => uptoBulkEntries entries + 1
  | .held _ => 1
def uptoBulkAll {H : Type} : List (DataW H) → Nat
  | [] => 0
  | d :: r => uptoBulk d + uptoBulkAll r
def uptoBulkEntries {H : Type} : List (Lit × DataW H) → Nat
  | [] => 0
  | x :: r => uptoBulkEntry x + uptoBulkEntries r
def uptoBulkEntry {H : Type} : Lit × DataW H → Nat
  | (.string bytes, d) => bytes.length + uptoBulk d + 1
  | (_, d) => uptoBulk d + 1
 end
def uptoSmall : (H : Type) → List (DataW H) → Bool := fun _ ds => decide (uptoBulkAll ds ≤ 1048576)
def OpenSpec.upto (s : _root_.Go.ChangeSpec) : _root_.Go.OpenSpec := { _root_.Go.OpenSpec.ofChange s with cond := some uptoSmall }

/-- 'demurragelaw11.EasterTells', WHERE WHAT IT READS IS OF BULK AT MOST 1048576: true; the input reads as it did. -/
def easterTellsUptoRow : OpenClaim := { program := "ytlhopmipcibgcaadoor", sum := "183786e4af5d4dce6577218f9c68d58a44cf3009b4a60e4605b3d8d96a024882", func := "demurrage/demurragelaw11.EasterTells", spec := "easterTells", unfollowed := true, recurses := true, named := ["demurrage/civil.lengths"], apart := false, laid := [("demurrage/civil.lengths", laid_demurrage_civil_lengths)], narrowed := true }
def EasterTellsUptoSaid : Prop := easterTellsUptoRow.holds Tryd.pinned (OpenSpec.upto easterTellsSpec)

/-- 'demurragelaw11.EasterSunday', WHERE WHAT IT READS IS OF BULK AT MOST 1048576: true; the input reads as it did. -/
def easterSundayUptoRow : OpenClaim := { program := "ytlhopmipcibgcaadoor", sum := "183786e4af5d4dce6577218f9c68d58a44cf3009b4a60e4605b3d8d96a024882", func := "demurrage/demurragelaw11.EasterSunday", spec := "easterSunday", unfollowed := true, recurses := true, named := ["demurrage/civil.lengths"], apart := false, laid := [("demurrage/civil.lengths", laid_demurrage_civil_lengths)], narrowed := true }
def EasterSundayUptoSaid : Prop := easterSundayUptoRow.holds Tryd.pinned (OpenSpec.upto easterSundaySpec)

/-- 'demurragelaw11.EasterRound', WHERE WHAT IT READS IS OF BULK AT MOST 1048576: true; the input reads as it did. -/
def easterRoundUptoRow : OpenClaim := { program := "ytlhopmipcibgcaadoor", sum := "183786e4af5d4dce6577218f9c68d58a44cf3009b4a60e4605b3d8d96a024882", func := "demurrage/demurragelaw11.EasterRound", spec := "easterRound", unfollowed := true, recurses := true, named := ["demurrage/civil.lengths"], apart := false, laid := [("demurrage/civil.lengths", laid_demurrage_civil_lengths)], narrowed := true }
def EasterRoundUptoSaid : Prop := easterRoundUptoRow.holds Tryd.pinned (OpenSpec.upto easterRoundSpec)

/-- 'demurragelaw11.EasterApart', WHERE WHAT IT READS IS OF BULK AT MOST 1048576: true; the input reads as it did. -/
def easterApartUptoRow : OpenClaim := { program := "ytlhopmipcibgcaadoor", sum := "183786e4af5d4dce6577218f9c68d58a44cf3009b4a60e4605b3d8d96a024882", func := "demurrage/demurragelaw11.EasterApart", spec := "easterApart", unfollowed := true, recurses := true, named := ["demurrage/civil.lengths"], apart := false, laid := [("demurrage/civil.lengths", laid_demurrage_civil_lengths)], narrowed := true }
def EasterApartUptoSaid : Prop := easterApartUptoRow.holds Tryd.pinned (OpenSpec.upto easterApartSpec)

end Rows
end Go.Proofs.YtlhopmipcibgcaaDoor
