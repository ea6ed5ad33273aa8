/- RatioLaws: the walk. -/
import Derived.Test.YtghhnpbepilefaaRLawsA
import Derived.Test.YtghhnpbepilefaaRLawsB
import Derived.Test.YtghhnpbepilefaaRLawsC
import Derived.Test.YtghhnpbepilefaaRLawsD
namespace Go.Proofs.Ytghhnpbepilefaa
open Go.RowKit
set_option linter.unusedVariables false

set_option maxHeartbeats 1000000 in
set_option maxRecDepth 100000 in
theorem rlaws_no1 (an ad bn bd : Int) (w : World) (ha : rightB an ad = false) :
    Calls Try.prog 5 #[.agg #[.int .i64 an, .int .i64 ad], .agg #[.int .i64 bn, .int .i64 bd]] w fun e w' => e = .returned (.bool true) ∧ Below w.heap.size w w' := by
  have H := Held.start w
  have RA := Lib.hid ha
  clear ha
  go_enter Try.func5, Try.ntmps5
  go_wp2_with fail
  replace H := ((H.pair (w.heap.size) (.int .i64 an) (.int .i64 ad) 23 rfl).pair (w.heap.size + 1) (.int .i64 bn) (.int .i64 bd) 23 (by simp))
  (with_reducible refine (rshown_any _).mono ?_)
  rintro e w1 ⟨rfl, hb⟩
  replace H := H.below hb
  clear hb
  have ca0 := H.cell (w.heap.size) 0 (.int .i64 an) (List.Mem.tail _ (List.Mem.tail _ (List.Mem.tail _ (List.Mem.tail _ (List.Mem.head _)))))
  have ca1 := H.cell (w.heap.size) 1 (.int .i64 ad) (List.Mem.tail _ (List.Mem.tail _ (List.Mem.tail _ (List.Mem.tail _ (List.Mem.tail _ (List.Mem.head _))))))
  have la := H.lt (w.heap.size) 0 (.int .i64 an) (List.Mem.tail _ (List.Mem.tail _ (List.Mem.tail _ (List.Mem.tail _ (List.Mem.head _)))))
  go_wp2_with fail
  clear ca0 ca1 la
  (with_reducible refine (rright_is an ad false _ RA.out).mono ?_)
  rintro e w2 ⟨rfl, hb⟩
  replace H := H.below hb
  clear hb
  go_wp2
  go_ret
  exact ⟨rfl, H.old⟩

set_option maxHeartbeats 1000000 in
set_option maxRecDepth 100000 in
theorem rlaws_no2 (an ad bn bd : Int) (w : World) (ha : rightB an ad = true) (hb : rightB bn bd = false) :
    Calls Try.prog 5 #[.agg #[.int .i64 an, .int .i64 ad], .agg #[.int .i64 bn, .int .i64 bd]] w fun e w' => e = .returned (.bool true) ∧ Below w.heap.size w w' := by
  have H := Held.start w
  have RA := Lib.hid ha
  have RB := Lib.hid hb
  clear ha hb
  go_enter Try.func5, Try.ntmps5
  go_wp2_with fail
  replace H := ((H.pair (w.heap.size) (.int .i64 an) (.int .i64 ad) 23 rfl).pair (w.heap.size + 1) (.int .i64 bn) (.int .i64 bd) 23 (by simp))
  (with_reducible refine (rshown_any _).mono ?_)
  rintro e w1 ⟨rfl, hb⟩
  replace H := H.below hb
  clear hb
  have ca0 := H.cell (w.heap.size) 0 (.int .i64 an) (List.Mem.tail _ (List.Mem.tail _ (List.Mem.tail _ (List.Mem.tail _ (List.Mem.head _)))))
  have ca1 := H.cell (w.heap.size) 1 (.int .i64 ad) (List.Mem.tail _ (List.Mem.tail _ (List.Mem.tail _ (List.Mem.tail _ (List.Mem.tail _ (List.Mem.head _))))))
  have la := H.lt (w.heap.size) 0 (.int .i64 an) (List.Mem.tail _ (List.Mem.tail _ (List.Mem.tail _ (List.Mem.tail _ (List.Mem.head _)))))
  go_wp2_with fail
  clear ca0 ca1 la
  (with_reducible refine (rright_is an ad true _ RA.out).mono ?_)
  rintro e w2 ⟨rfl, hb⟩
  replace H := H.below hb
  clear hb
  have cb0 := H.cell (w.heap.size + 1) 0 (.int .i64 bn) (List.Mem.head _)
  have cb1 := H.cell (w.heap.size + 1) 1 (.int .i64 bd) (List.Mem.tail _ (List.Mem.head _))
  have lb := H.lt (w.heap.size + 1) 0 (.int .i64 bn) (List.Mem.head _)
  go_wp2_with fail
  clear cb0 cb1 lb
  (with_reducible refine (rright_is bn bd false _ RB.out).mono ?_)
  rintro e w3 ⟨rfl, hb⟩
  replace H := H.below hb
  clear hb
  go_wp2
  go_ret
  exact ⟨rfl, H.old⟩

theorem rlaws_walk (an ad bn bd : Int) (w : World) (h1 : (-9223372036854775808 ≤ an ∧ an < 9223372036854775808)) (h2 : (-9223372036854775808 ≤ ad ∧ ad < 9223372036854775808)) (h3 : (-9223372036854775808 ≤ bn ∧ bn < 9223372036854775808)) (h4 : (-9223372036854775808 ≤ bd ∧ bd < 9223372036854775808)) :
    Calls Try.prog 5 #[.agg #[.int .i64 an, .int .i64 ad], .agg #[.int .i64 bn, .int .i64 bd]] w fun e w' => e = .returned (.bool true) ∧ Below w.heap.size w w' := by
  by_cases ha : rightB an ad = true
  · by_cases hb : rightB bn bd = true
    · by_cases e1 : an = bn
      · by_cases e2 : ad = bd
        · subst e1 e2
          cases fs : fitB (an * ad + an * ad) (ad * ad) <;> cases fp : fitB (an * an) (ad * ad)
          · exact rlawsD_eq an ad w ha fs fp
          · exact rlawsC_eq an ad w ha fs fp
          · exact rlawsB_eq an ad w ha fs fp
          · exact rlawsA_eq an ad w ha fs fp
        · cases fs : fitB (an * bd + bn * ad) (ad * bd) <;> cases fp : fitB (an * bn) (ad * bd)
          · exact rlawsD_ne2 an ad bn bd w ha hb e1 e2 fs fp
          · exact rlawsC_ne2 an ad bn bd w ha hb e1 e2 fs fp
          · exact rlawsB_ne2 an ad bn bd w ha hb e1 e2 fs fp
          · exact rlawsA_ne2 an ad bn bd w ha hb e1 e2 fs fp
      · cases fs : fitB (an * bd + bn * ad) (ad * bd) <;> cases fp : fitB (an * bn) (ad * bd)
        · exact rlawsD_ne1 an ad bn bd w ha hb e1 fs fp
        · exact rlawsC_ne1 an ad bn bd w ha hb e1 fs fp
        · exact rlawsB_ne1 an ad bn bd w ha hb e1 fs fp
        · exact rlawsA_ne1 an ad bn bd w ha hb e1 fs fp
    · exact rlaws_no2 an ad bn bd w ha (by simpa using hb)
  · exact rlaws_no1 an ad bn bd w (by simpa using ha)
end Go.Proofs.Ytghhnpbepilefaa
