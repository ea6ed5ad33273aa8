/- The document's examples, at the head of each statement of layer 2: they hold. -/
import Derived.Test.YtkmchbllnfoccaaGreatDoorRAdd
import Derived.Test.YtkmchbllnfoccaaGreatDoorRMul
import Derived.Test.YtkmchbllnfoccaaGreatDoorNew
import Derived.Test.YtkmchbllnfoccaaGreatDoorRCmp
namespace Go.Proofs.YtkmchbllnfoccaaGreatDoor
open Go.RowKit
set_option linter.unusedVariables false

theorem gcd_is (a b g : Int) (w : World) (a0 : 0 ≤ a) (a1 : a < 18446744073709551616) (b0 : 0 ≤ b) (b1 : b < 18446744073709551616) (h : gi a b = g) :
    Calls Tryz.prog 92 #[.int .u64 a, .int .u64 b] w fun e w' => e = .returned (.int .u64 g) ∧ Below w.heap.size w w' := by
  subst h; exact gcd_below a b w a0 a1 b0 b1
theorem right_is (n d : Int) (c : Bool) (w : World) (h : rightB n d = c) :
    Calls Tryz.prog 91 #[.agg #[.int .i64 n, .int .i64 d]] w fun e w' => e = .returned (.bool c) ∧ Below w.heap.size w w' := by
  subst h; exact right_any n d w
theorem new_is (n d p q c : Int) (w : World) (n0 : 0 ≤ n) (n1 : n < 9223372036854775808) (d0 : 0 < d) (d1 : d < 9223372036854775808) (h : rN n d = p ∧ rD n d = q ∧ rE n d = c) :
    Calls Tryz.prog 74 #[.int .i64 n, .int .i64 d] w fun e w' => e = .returned (.tuple #[.agg #[.int .i64 p, .int .i64 q], .int .i64 c]) ∧ Below w.heap.size w w' := by
  obtain ⟨rfl, rfl, rfl⟩ := h; exact new_any n d w n0 n1 d0 d1
theorem radd_is (an ad bn bd p q c : Int) (w : World) (ha : rightB an ad = true) (hb : rightB bn bd = true) (h : rN (an * bd + bn * ad) (ad * bd) = p ∧ rD (an * bd + bn * ad) (ad * bd) = q ∧ rE (an * bd + bn * ad) (ad * bd) = c) :
    Calls Tryz.prog 75 #[.agg #[.int .i64 an, .int .i64 ad], .agg #[.int .i64 bn, .int .i64 bd]] w fun e w' => e = .returned (.tuple #[.agg #[.int .i64 p, .int .i64 q], .int .i64 c]) ∧ Below w.heap.size w w' := by
  obtain ⟨rfl, rfl, rfl⟩ := h; exact radd_any an ad bn bd w ha hb

end Go.Proofs.YtkmchbllnfoccaaGreatDoor
