/- What is known of the tables while the walks of layer 11 go on (FactsE: to be widened for the landed code); Easter, as the walks ask it; the document's examples. -/
import Derived.Test.YtlhopmipcibgcaaDoorEaRef
namespace Go.Proofs.YtlhopmipcibgcaaDoor
open Go.RowKit
set_option linter.unusedVariables false

/-- What stands in the memory, whatever is made. (A scratch copy's: civil's table alone.) -/
def FactsE (w : World) : Prop := Lens w
theorem FactsE.below {W W' : World} (h : FactsE W) (hb : Below W.heap.size W W') : FactsE W' := Lens.below h hb
def factsEF : Fact := .that FactsE (fun _ _ hb h => h.below hb)
theorem Held.factsE {w W : World} {fs : List Fact} (h : Held w fs W) (hm : factsEF ∈ fs) : FactsE W := h.all _ hm
/-- What Day answers. -/
structure EWay : Prop where
  day : ∀ (y n c : Int) (w : World), FactsE w → EaIs y n c → Calls Tryd.prog 8 #[.int .i64 y] w fun e w' => e = .returned (.tuple #[.int .i64 n, .int .i64 c]) ∧ Below w.heap.size w w'
theorem lday11_is (y m d n : Int) (w : World) (h : nN y m d = n) : Calls Tryd.prog 11 #[.int .i64 y, .int .i64 m, .int .i64 d] w fun e w' => e = .returned (.int .i64 n) ∧ Below w.heap.size w w' := by
  obtain ⟨c, hc⟩ : ∃ c, nE y m d = c := ⟨_, rfl⟩
  have C := Lib.hid (fun v => rnumber_is y m d n c v ⟨h, hc⟩)
  clear h hc
  go_enter Tryd.func11, Tryd.ntmps11
  go_wp2_with fail
  (with_reducible refine (C.out _).mono ?_)
  rintro e w1 ⟨rfl, hb⟩
  go_wp2
  go_ret
  exact ⟨rfl, hb⟩

set_option maxHeartbeats 4000000 in
set_option maxRecDepth 100000 in
theorem eshown_any (K : EWay) (w : World) (hL : FactsE w) : Calls Tryd.prog 7 #[] w fun e w' => e = .returned (.bool true) ∧ Below w.heap.size w w' := by
  have H := (Held.start w).add (f := factsEF) hL
  clear hL
  go_enter Tryd.func7, Tryd.ntmps7
  go_wp2_with fail
  (with_reducible refine (K.day 2024 738976 0 _ (H.factsE (List.Mem.head _)) (ea_val (by decide +kernel) (by decide +kernel) (by decide +kernel))).mono ?_)
  rintro e w1 ⟨rfl, hb⟩
  replace H := H.below hb
  clear hb
  go_wp2_with fail
  (with_reducible refine (K.day 2000 730233 0 _ (H.factsE (List.Mem.head _)) (ea_val (by decide +kernel) (by decide +kernel) (by decide +kernel))).mono ?_)
  rintro e w2 ⟨rfl, hb⟩
  replace H := H.below hb
  clear hb
  go_wp2_with fail
  (with_reducible refine (K.day 1818 663726 0 _ (H.factsE (List.Mem.head _)) (ea_val (by decide +kernel) (by decide +kernel) (by decide +kernel))).mono ?_)
  rintro e w3 ⟨rfl, hb⟩
  replace H := H.below hb
  clear hb
  go_wp2_with fail
  (with_reducible refine (K.day 2038 744114 0 _ (H.factsE (List.Mem.head _)) (ea_val (by decide +kernel) (by decide +kernel) (by decide +kernel))).mono ?_)
  rintro e w4 ⟨rfl, hb⟩
  replace H := H.below hb
  clear hb
  go_wp2_with fail
  (with_reducible refine (K.day 0 0 3 _ (H.factsE (List.Mem.head _)) (ea_out (by decide +kernel))).mono ?_)
  rintro e w5 ⟨rfl, hb⟩
  replace H := H.below hb
  clear hb
  go_wp2_with fail
  (with_reducible refine (lday11_is 2024 3 31 738976 _ (by decide +kernel)).mono ?_)
  rintro e w6 ⟨rfl, hb⟩
  replace H := H.below hb
  clear hb
  go_wp2_with fail
  (with_reducible refine (lday11_is 2000 4 23 730233 _ (by decide +kernel)).mono ?_)
  rintro e w7 ⟨rfl, hb⟩
  replace H := H.below hb
  clear hb
  go_wp2_with fail
  (with_reducible refine (lday11_is 1818 3 22 663726 _ (by decide +kernel)).mono ?_)
  rintro e w8 ⟨rfl, hb⟩
  replace H := H.below hb
  clear hb
  go_wp2_with fail
  (with_reducible refine (lday11_is 2038 4 25 744114 _ (by decide +kernel)).mono ?_)
  rintro e w9 ⟨rfl, hb⟩
  replace H := H.below hb
  clear hb
  go_wp2_with fail
  go_ret
  exact ⟨rfl, H.old⟩
end Go.Proofs.YtlhopmipcibgcaaDoor
