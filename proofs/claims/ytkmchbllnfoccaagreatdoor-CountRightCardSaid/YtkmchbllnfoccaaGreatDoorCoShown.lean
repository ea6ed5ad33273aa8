/- Layer 10: what stands in the memory while a call goes on; what the three calls answer, as the walks ask it; the document's example. -/
import Derived.Test.YtkmchbllnfoccaaGreatDoorCoNum
import Derived.Test.YtkmchbllnfoccaaGreatDoorCoNm
import Derived.Test.YtkmchbllnfoccaaGreatDoorGAc
import Derived.Test.YtkmchbllnfoccaaGreatDoorRefRight
import Derived.Test.YtkmchbllnfoccaaGreatDoorGIc
namespace Go.Proofs.YtkmchbllnfoccaaGreatDoor
open Go.RowKit
set_option linter.unusedVariables false
set_option linter.unusedSimpArgs false

/-- The months' lengths, the errors of actual, those of icma with the handle of the type error. -/
def FactsC (w : World) : Prop := Lens w ∧ Errs_ac w ∧ Errs w
theorem FactsC.below {W W' : World} (h : FactsC W) (hb : Below W.heap.size W W') : FactsC W' := ⟨h.1.below hb, h.2.1.below hb, h.2.2.below hb⟩
def factsCF : Fact := .that FactsC (fun _ _ hb h => h.below hb)
theorem Held.factsC {w W : World} {fs : List Fact} (h : Held w fs W) (hm : factsCF ∈ fs) : FactsC W := h.all _ hm
def i64B (k : Int) : Prop := -9223372036854775808 ≤ k ∧ k < 9223372036854775808
/-- What the three calls answer. -/
structure CWay : Prop where
  name : ∀ (k : Int) (s : ByteArray) (w : World), FactsC w → i64B k → nm k = s → Calls Tryz.prog 14 #[.int .i64 k] w fun e w' => e = .returned (.string s) ∧ Below w.heap.size w w'
  kind : ∀ (s : ByteArray) (k c : Int) (w : World), FactsC w → kd s = (k, c) → Calls Tryz.prog 12 #[.string s] w fun e w' => e = .returned (.tuple #[.int .i64 k, .int .i64 c]) ∧ Below w.heap.size w w'
  part : ∀ (k a b : Int) (t : Bool) (en f : Int) (ao : Option Addr) (n cap : Nat) (X : Nat → Int) (p q c : Int) (w : World), FactsC w → i64B k → n ≤ 100 → RowAt w ao X n cap → CoIs k a b t en f X n p q c →
    Calls Tryz.prog 10 #[.int .i64 k, .int .i64 a, .int .i64 b, .agg #[.bool t, .int .i64 en, .int .i64 f, .slice ao n cap]] w fun e w' => e = .returned (.tuple #[.agg #[.int .i64 p, .int .i64 q], .int .i64 c]) ∧ Below w.heap.size w w'
theorem row_none (w : World) (X : Nat → Int) : RowAt w none X 0 0 := ⟨Nat.le_refl _, fun h => absurd h (by omega)⟩

theorem co_ex : CoIs 3 1 91 false 0 0 (fun _ => 0) 0 1 4 0 :=
  Or.inr (Or.inr (Or.inr (Or.inl ⟨rfl, ac_in 1 1 1 1 4 1 (by unfold may; decide +kernel) (by decide +kernel) (by unfold may; decide +kernel) (by decide +kernel) (by decide +kernel) (by decide +kernel) (by decide +kernel)⟩)))

set_option maxHeartbeats 4000000 in
set_option maxRecDepth 100000 in
theorem coshown_any (K : CWay) (w : World) (hL : FactsC w) : Calls Tryz.prog 9 #[] w fun e w' => e = .returned (.bool true) ∧ Below w.heap.size w w' := by
  have H := (Held.start w).add (f := factsCF) hL
  clear hL
  go_enter Tryz.func9, Tryz.ntmps9
  go_wp2_with fail
  (with_reducible refine (K.part 3 1 91 false 0 0 none 0 0 (fun _ => 0) 1 4 0 _ (H.factsC (List.Mem.head _)) (by unfold i64B; decide) (by decide) (row_none _ _) co_ex).mono ?_)
  rintro e w1 ⟨rfl, hb⟩
  replace H := H.below hb
  clear hb
  go_wp2_with fail
  replace H := (H.pair (w1.heap.size) (.int .i64 1) (.int .i64 4) 29 rfl)
  (with_reducible refine (K.part 7 1 91 false 0 0 none 0 0 (fun _ => 0) 0 0 1 _ (H.factsC (List.Mem.tail _ (List.Mem.tail _ (List.Mem.tail _ (List.Mem.tail _ (List.Mem.head _)))))) (by unfold i64B; decide) (by decide) (row_none _ _) (co_none (by omega))).mono ?_)
  rintro e w2 ⟨rfl, hb⟩
  replace H := H.below hb
  clear hb
  go_wp2_with fail
  replace H := (H.alloc (.cells #[.int .i64 0, .int .i64 0] 29))
  (with_reducible refine (K.kind _ 5 0 _ (H.factsC (List.Mem.tail _ (List.Mem.tail _ (List.Mem.tail _ (List.Mem.tail _ (List.Mem.head _)))))) (by decide +kernel)).mono ?_)
  rintro e w3 ⟨rfl, hb⟩
  replace H := H.below hb
  clear hb
  go_wp2_with fail
  (with_reducible refine (K.kind _ 0 10 _ (H.factsC (List.Mem.tail _ (List.Mem.tail _ (List.Mem.tail _ (List.Mem.tail _ (List.Mem.head _)))))) (by decide +kernel)).mono ?_)
  rintro e w4 ⟨rfl, hb⟩
  replace H := H.below hb
  clear hb
  have ca0 := H.cell (w1.heap.size) 0 (.int .i64 1) (List.Mem.head _)
  have ca1 := H.cell (w1.heap.size) 1 (.int .i64 4) (List.Mem.tail _ (List.Mem.head _))
  have la := H.lt (w1.heap.size) 0 (.int .i64 1) (List.Mem.head _)
  go_wp2_with fail
  clear ca0 ca1 la
  (with_reducible refine (K.name 0 ⟨#[51, 48, 47, 51, 54, 48]⟩ _ (H.factsC (List.Mem.tail _ (List.Mem.tail _ (List.Mem.tail _ (List.Mem.tail _ (List.Mem.head _)))))) (by unfold i64B; decide) (by decide +kernel)).mono ?_)
  rintro e w5 ⟨rfl, hb⟩
  replace H := H.below hb
  clear hb
  have ca0 := H.cell (w1.heap.size) 0 (.int .i64 1) (List.Mem.head _)
  have ca1 := H.cell (w1.heap.size) 1 (.int .i64 4) (List.Mem.tail _ (List.Mem.head _))
  have la := H.lt (w1.heap.size) 0 (.int .i64 1) (List.Mem.head _)
  go_wp2_with fail
  clear ca0 ca1 la
  (with_reducible refine (K.name (-1) ⟨#[]⟩ _ (H.factsC (List.Mem.tail _ (List.Mem.tail _ (List.Mem.tail _ (List.Mem.tail _ (List.Mem.head _)))))) (by unfold i64B; decide) (by decide +kernel)).mono ?_)
  rintro e w6 ⟨rfl, hb⟩
  replace H := H.below hb
  clear hb
  go_wp2_with fail
  go_ret
  exact ⟨rfl, H.old⟩
end Go.Proofs.YtkmchbllnfoccaaGreatDoor
