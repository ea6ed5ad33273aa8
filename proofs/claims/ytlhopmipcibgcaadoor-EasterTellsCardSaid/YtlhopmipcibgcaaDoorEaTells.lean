/- EasterTells: the walk. -/
import Derived.Test.YtlhopmipcibgcaaDoorEaShown
namespace Go.Proofs.YtlhopmipcibgcaaDoor
open Go.RowKit
set_option linter.unusedVariables false
set_option linter.unusedSimpArgs false

set_option maxHeartbeats 4000000 in
set_option maxRecDepth 100000 in
theorem etells_walk (K : EWay) (y : Int) (w : World) (hL : FactsE w) (hy : -9223372036854775808 ≤ y ∧ y < 9223372036854775808) :
    Calls Tryd.prog 3 #[.int .i64 y] w fun e w' => e = .returned (.bool true) ∧ Below w.heap.size w w' := by
  have H := (Held.start w).add (f := factsEF) hL
  clear hL
  clear hy
  obtain ⟨n, c, h⟩ := ea_is y
  have W := Lib.hid h
  clear h
  go_enter Tryd.func3, Tryd.ntmps3
  go_wp2_with fail
  (with_reducible refine (eshown_any K _ (H.factsE (List.Mem.head _))).mono ?_)
  rintro e w1 ⟨rfl, hb⟩
  replace H := H.below hb
  clear hb
  go_wp2_with fail
  (with_reducible refine (K.day y n c _ (H.factsE (List.Mem.head _)) W.out).mono ?_)
  rintro e w2 ⟨rfl, hb⟩
  replace H := H.below hb
  clear hb
  go_wp2_with fail
  (with_reducible refine (rea_any y n c _ W.out).mono ?_)
  rintro e w3 ⟨rfl, hb⟩
  replace H := H.below hb
  clear hb
  go_wp2_with fail
  go_ret
  exact ⟨rfl, H.old⟩
end Go.Proofs.YtlhopmipcibgcaaDoor
