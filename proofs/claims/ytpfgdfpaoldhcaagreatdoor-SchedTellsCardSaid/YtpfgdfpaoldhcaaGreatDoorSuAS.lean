/- Several texts in one: CaBox, RuShown, EaShown. -/
import Derived.Test.YtpfgdfpaoldhcaaGreatDoorSuAC
set_option maxHeartbeats 8000000
set_option maxRecDepth 100000
set_option linter.unusedVariables false
set_option linter.unusedSimpArgs false
namespace Go.Proofs.YtpfgdfpaoldhcaaGreatDoor
open Go.RowKit
theorem Held.box_7 {w W:World} {fs:List Fact} (h:Held w fs W) (B:Nat) (x0 x1 x2 x3 x4 x5 x6:Value) (t:TypeId) (hB:W.heap.size=B) :
  Held w (.cell B 0 x0::.cell B 1 x1::.cell B 2 x2::.cell B 3 x3::.cell B 4 x4::.cell B 5 x5::.cell B 6 x6::.free B 0::.free B 1::.free B 2::.free B 3::.free B 4::.free B 5::.free B 6::fs) (W.alloc (.cells #[x0,x1,x2,x3,x4,x5,x6] t)):=by
 subst hB
 exact ((((((((((((((h.alloc _).add (f:=.free W.heap.size 6) ⟨zs,by simp[go_sem]⟩).add (f:=.free W.heap.size 5) ⟨zs,by simp[go_sem]⟩).add (f:=.free W.heap.size 4) ⟨zs,by simp[go_sem]⟩).add (f:=.free W.heap.size 3) ⟨zs,by simp[go_sem]⟩).add (f:=.free W.heap.size 2) ⟨zs,by simp[go_sem]⟩).add (f:=.free W.heap.size 1) ⟨zs,by simp[go_sem]⟩).add (f:=.free W.heap.size 0) ⟨zs,by simp[go_sem]⟩).add (f:=.cell W.heap.size 6 x6) zf).add (f:=.cell W.heap.size 5 x5) zf).add (f:=.cell W.heap.size 4 x4) zf).add (f:=.cell W.heap.size 3 x3) zf).add (f:=.cell W.heap.size 2 x2) zf).add (f:=.cell W.heap.size 1 x1) zf).add (f:=.cell W.heap.size 0 x0) zf
def FactsU (w:World):Prop:=Lens w
theorem FactsU.below {W W':World} (h:FactsU W) (hb:Below W W W'):FactsU W':=Lens.below h hb
def FactsE (w:World):Prop:=Lens w
theorem FactsE.below {W W':World} (h:FactsE W) (hb:Below W W W'):FactsE W':=Lens.below h hb
end Go.Proofs.YtpfgdfpaoldhcaaGreatDoor
