/- RatioExact: the walk. -/
import Derived.Test.YtghhnpbepilefaaRShown
import Derived.Test.YtghhnpbepilefaaRefRight
import Derived.Test.YtghhnpbepilefaaRefArith
namespace Go.Proofs.Ytghhnpbepilefaa
open Go.RowKit
set_option linter.unusedVariables false

set_option maxHeartbeats 1000000 in
set_option maxRecDepth 100000 in
theorem rexact_no1 (an ad bn bd : Int) (w : World) (ha : rightB an ad = false) :
    Calls Try.prog 4 #[.agg #[.int .i64 an, .int .i64 ad], .agg #[.int .i64 bn, .int .i64 bd]] w fun e w' => e = .returned (.bool true) ∧ Below w.heap.size w w' := by
  have H := Held.start w
  have RA := Lib.hid ha
  clear ha
  go_enter Try.func4, Try.ntmps4
  go_wp2_with fail
  replace H := ((H.pair (w.heap.size) (.int .i64 an) (.int .i64 ad) 23 rfl).pair (w.heap.size + 1) (.int .i64 bn) (.int .i64 bd) 23 (by simp))
  (with_reducible refine (rshown_any _).mono ?_)
  rintro e w1 ⟨rfl, hb⟩
  replace H := H.below hb
  clear hb
  have ca0 := H.cell (w.heap.size) 0 (.int .i64 an) (List.Mem.tail _ (List.Mem.tail _ (List.Mem.tail _ (List.Mem.tail _ (List.Mem.head _)))))
  have ca1 := H.cell (w.heap.size) 1 (.int .i64 ad) (List.Mem.tail _ (List.Mem.tail _ (List.Mem.tail _ (List.Mem.tail _ (List.Mem.tail _ (List.Mem.head _))))))
  have la := H.lt (w.heap.size) 0 (.int .i64 an) (List.Mem.tail _ (List.Mem.tail _ (List.Mem.tail _ (List.Mem.tail _ (List.Mem.head _)))))
  go_wp2_with fail
  clear ca0 ca1 la
  (with_reducible refine (rright_is an ad false _ RA.out).mono ?_)
  rintro e w2 ⟨rfl, hb⟩
  replace H := H.below hb
  clear hb
  go_wp2
  go_ret
  exact ⟨rfl, H.old⟩

set_option maxHeartbeats 1000000 in
set_option maxRecDepth 100000 in
theorem rexact_no2 (an ad bn bd : Int) (w : World) (ha : rightB an ad = true) (hb : rightB bn bd = false) :
    Calls Try.prog 4 #[.agg #[.int .i64 an, .int .i64 ad], .agg #[.int .i64 bn, .int .i64 bd]] w fun e w' => e = .returned (.bool true) ∧ Below w.heap.size w w' := by
  have H := Held.start w
  have RA := Lib.hid ha
  have RB := Lib.hid hb
  clear ha hb
  go_enter Try.func4, Try.ntmps4
  go_wp2_with fail
  replace H := ((H.pair (w.heap.size) (.int .i64 an) (.int .i64 ad) 23 rfl).pair (w.heap.size + 1) (.int .i64 bn) (.int .i64 bd) 23 (by simp))
  (with_reducible refine (rshown_any _).mono ?_)
  rintro e w1 ⟨rfl, hb⟩
  replace H := H.below hb
  clear hb
  have ca0 := H.cell (w.heap.size) 0 (.int .i64 an) (List.Mem.tail _ (List.Mem.tail _ (List.Mem.tail _ (List.Mem.tail _ (List.Mem.head _)))))
  have ca1 := H.cell (w.heap.size) 1 (.int .i64 ad) (List.Mem.tail _ (List.Mem.tail _ (List.Mem.tail _ (List.Mem.tail _ (List.Mem.tail _ (List.Mem.head _))))))
  have la := H.lt (w.heap.size) 0 (.int .i64 an) (List.Mem.tail _ (List.Mem.tail _ (List.Mem.tail _ (List.Mem.tail _ (List.Mem.head _)))))
  go_wp2_with fail
  clear ca0 ca1 la
  (with_reducible refine (rright_is an ad true _ RA.out).mono ?_)
  rintro e w2 ⟨rfl, hb⟩
  replace H := H.below hb
  clear hb
  have cb0 := H.cell (w.heap.size + 1) 0 (.int .i64 bn) (List.Mem.head _)
  have cb1 := H.cell (w.heap.size + 1) 1 (.int .i64 bd) (List.Mem.tail _ (List.Mem.head _))
  have lb := H.lt (w.heap.size + 1) 0 (.int .i64 bn) (List.Mem.head _)
  go_wp2_with fail
  clear cb0 cb1 lb
  (with_reducible refine (rright_is bn bd false _ RB.out).mono ?_)
  rintro e w3 ⟨rfl, hb⟩
  replace H := H.below hb
  clear hb
  go_wp2
  go_ret
  exact ⟨rfl, H.old⟩

set_option maxHeartbeats 8000000 in
set_option maxRecDepth 100000 in
theorem rexact_yes (an ad bn bd : Int) (w : World) (ha : rightB an ad = true) (hb : rightB bn bd = true) :
    Calls Try.prog 4 #[.agg #[.int .i64 an, .int .i64 ad], .agg #[.int .i64 bn, .int .i64 bd]] w fun e w' => e = .returned (.bool true) ∧ Below w.heap.size w w' := by
  have H := Held.start w
  obtain ⟨a0, a1, a2, a3, -⟩ := (right_iff an ad).1 ha
  obtain ⟨b0, b1, b2, b3, -⟩ := (right_iff bn bd).1 hb
  have C1 := Lib.hid (fun w => radd_any an ad bn bd w ha hb)
  have C2 := Lib.hid (fun w => refadd_any an ad bn bd w ha hb)
  have C3 := Lib.hid (fun w => rmul_any an ad bn bd w ha hb)
  have C4 := Lib.hid (fun w => refmul_any an ad bn bd w ha hb)
  have C6 := Lib.hid (fun w => refcmp_any an ad bn bd w ha hb)
  obtain ⟨sn, SN⟩ : ∃ x, Hid (rN (an * bd + bn * ad) (ad * bd) = x) := ⟨_, Lib.hid rfl⟩
  obtain ⟨sd, SD⟩ : ∃ x, Hid (rD (an * bd + bn * ad) (ad * bd) = x) := ⟨_, Lib.hid rfl⟩
  obtain ⟨se, SE⟩ : ∃ x, Hid (rE (an * bd + bn * ad) (ad * bd) = x) := ⟨_, Lib.hid rfl⟩
  obtain ⟨pn, PN⟩ : ∃ x, Hid (rN (an * bn) (ad * bd) = x) := ⟨_, Lib.hid rfl⟩
  obtain ⟨pd, PD⟩ : ∃ x, Hid (rD (an * bn) (ad * bd) = x) := ⟨_, Lib.hid rfl⟩
  obtain ⟨pe, PE⟩ : ∃ x, Hid (rE (an * bn) (ad * bd) = x) := ⟨_, Lib.hid rfl⟩
  obtain ⟨c, HC⟩ : ∃ x, Hid (cmpI (an * bd) (bn * ad) = x) := ⟨_, Lib.hid rfl⟩
  have RA := Lib.hid ha
  have RB := Lib.hid hb
  clear ha hb
  go_enter Try.func4, Try.ntmps4
  go_wp2_with fail
  replace H := ((H.pair (w.heap.size) (.int .i64 an) (.int .i64 ad) 23 rfl).pair (w.heap.size + 1) (.int .i64 bn) (.int .i64 bd) 23 (by simp))
  (with_reducible refine (rshown_any _).mono ?_)
  rintro e w1 ⟨rfl, hb⟩
  replace H := H.below hb
  clear hb
  have ca0 := H.cell (w.heap.size) 0 (.int .i64 an) (List.Mem.tail _ (List.Mem.tail _ (List.Mem.tail _ (List.Mem.tail _ (List.Mem.head _)))))
  have ca1 := H.cell (w.heap.size) 1 (.int .i64 ad) (List.Mem.tail _ (List.Mem.tail _ (List.Mem.tail _ (List.Mem.tail _ (List.Mem.tail _ (List.Mem.head _))))))
  have la := H.lt (w.heap.size) 0 (.int .i64 an) (List.Mem.tail _ (List.Mem.tail _ (List.Mem.tail _ (List.Mem.tail _ (List.Mem.head _)))))
  go_wp2_with fail
  clear ca0 ca1 la
  (with_reducible refine (rright_is an ad true _ RA.out).mono ?_)
  rintro e w2 ⟨rfl, hb⟩
  replace H := H.below hb
  clear hb
  have cb0 := H.cell (w.heap.size + 1) 0 (.int .i64 bn) (List.Mem.head _)
  have cb1 := H.cell (w.heap.size + 1) 1 (.int .i64 bd) (List.Mem.tail _ (List.Mem.head _))
  have lb := H.lt (w.heap.size + 1) 0 (.int .i64 bn) (List.Mem.head _)
  go_wp2_with fail
  clear cb0 cb1 lb
  (with_reducible refine (rright_is bn bd true _ RB.out).mono ?_)
  rintro e w3 ⟨rfl, hb⟩
  replace H := H.below hb
  clear hb
  have ca0 := H.cell (w.heap.size) 0 (.int .i64 an) (List.Mem.tail _ (List.Mem.tail _ (List.Mem.tail _ (List.Mem.tail _ (List.Mem.head _)))))
  have ca1 := H.cell (w.heap.size) 1 (.int .i64 ad) (List.Mem.tail _ (List.Mem.tail _ (List.Mem.tail _ (List.Mem.tail _ (List.Mem.tail _ (List.Mem.head _))))))
  have la := H.lt (w.heap.size) 0 (.int .i64 an) (List.Mem.tail _ (List.Mem.tail _ (List.Mem.tail _ (List.Mem.tail _ (List.Mem.head _)))))
  have cb0 := H.cell (w.heap.size + 1) 0 (.int .i64 bn) (List.Mem.head _)
  have cb1 := H.cell (w.heap.size + 1) 1 (.int .i64 bd) (List.Mem.tail _ (List.Mem.head _))
  have lb := H.lt (w.heap.size + 1) 0 (.int .i64 bn) (List.Mem.head _)
  go_wp2_with fail
  clear ca0 ca1 la cb0 cb1 lb
  (with_reducible refine (C1.out _).mono ?_)
  rw [SN.out, SD.out, SE.out]
  rintro e w4 ⟨rfl, hb⟩
  replace H := H.below hb
  clear hb
  have ca0 := H.cell (w.heap.size) 0 (.int .i64 an) (List.Mem.tail _ (List.Mem.tail _ (List.Mem.tail _ (List.Mem.tail _ (List.Mem.head _)))))
  have ca1 := H.cell (w.heap.size) 1 (.int .i64 ad) (List.Mem.tail _ (List.Mem.tail _ (List.Mem.tail _ (List.Mem.tail _ (List.Mem.tail _ (List.Mem.head _))))))
  have la := H.lt (w.heap.size) 0 (.int .i64 an) (List.Mem.tail _ (List.Mem.tail _ (List.Mem.tail _ (List.Mem.tail _ (List.Mem.head _)))))
  have cb0 := H.cell (w.heap.size + 1) 0 (.int .i64 bn) (List.Mem.head _)
  have cb1 := H.cell (w.heap.size + 1) 1 (.int .i64 bd) (List.Mem.tail _ (List.Mem.head _))
  have lb := H.lt (w.heap.size + 1) 0 (.int .i64 bn) (List.Mem.head _)
  go_wp2_with fail
  clear ca0 ca1 la cb0 cb1 lb
  replace H := (H.pair (w4.heap.size) (.int .i64 sn) (.int .i64 sd) 23 rfl)
  (with_reducible refine (C2.out _).mono ?_)
  rw [SN.out, SD.out, SE.out]
  rintro e w5 ⟨rfl, hb⟩
  replace H := H.below hb
  clear hb
  have ca0 := H.cell (w.heap.size) 0 (.int .i64 an) (List.Mem.tail _ (List.Mem.tail _ (List.Mem.tail _ (List.Mem.tail _ (List.Mem.tail _ (List.Mem.tail _ (List.Mem.tail _ (List.Mem.tail _ (List.Mem.head _)))))))))
  have ca1 := H.cell (w.heap.size) 1 (.int .i64 ad) (List.Mem.tail _ (List.Mem.tail _ (List.Mem.tail _ (List.Mem.tail _ (List.Mem.tail _ (List.Mem.tail _ (List.Mem.tail _ (List.Mem.tail _ (List.Mem.tail _ (List.Mem.head _))))))))))
  have la := H.lt (w.heap.size) 0 (.int .i64 an) (List.Mem.tail _ (List.Mem.tail _ (List.Mem.tail _ (List.Mem.tail _ (List.Mem.tail _ (List.Mem.tail _ (List.Mem.tail _ (List.Mem.tail _ (List.Mem.head _)))))))))
  have cb0 := H.cell (w.heap.size + 1) 0 (.int .i64 bn) (List.Mem.tail _ (List.Mem.tail _ (List.Mem.tail _ (List.Mem.tail _ (List.Mem.head _)))))
  have cb1 := H.cell (w.heap.size + 1) 1 (.int .i64 bd) (List.Mem.tail _ (List.Mem.tail _ (List.Mem.tail _ (List.Mem.tail _ (List.Mem.tail _ (List.Mem.head _))))))
  have lb := H.lt (w.heap.size + 1) 0 (.int .i64 bn) (List.Mem.tail _ (List.Mem.tail _ (List.Mem.tail _ (List.Mem.tail _ (List.Mem.head _)))))
  go_wp2_with fail
  clear ca0 ca1 la cb0 cb1 lb
  replace H := (H.pair (w5.heap.size) (.int .i64 sn) (.int .i64 sd) 23 rfl)
  (with_reducible refine (C3.out _).mono ?_)
  rw [PN.out, PD.out, PE.out]
  rintro e w6 ⟨rfl, hb⟩
  replace H := H.below hb
  clear hb
  have ca0 := H.cell (w.heap.size) 0 (.int .i64 an) (List.Mem.tail _ (List.Mem.tail _ (List.Mem.tail _ (List.Mem.tail _ (List.Mem.tail _ (List.Mem.tail _ (List.Mem.tail _ (List.Mem.tail _ (List.Mem.tail _ (List.Mem.tail _ (List.Mem.tail _ (List.Mem.tail _ (List.Mem.head _)))))))))))))
  have ca1 := H.cell (w.heap.size) 1 (.int .i64 ad) (List.Mem.tail _ (List.Mem.tail _ (List.Mem.tail _ (List.Mem.tail _ (List.Mem.tail _ (List.Mem.tail _ (List.Mem.tail _ (List.Mem.tail _ (List.Mem.tail _ (List.Mem.tail _ (List.Mem.tail _ (List.Mem.tail _ (List.Mem.tail _ (List.Mem.head _))))))))))))))
  have la := H.lt (w.heap.size) 0 (.int .i64 an) (List.Mem.tail _ (List.Mem.tail _ (List.Mem.tail _ (List.Mem.tail _ (List.Mem.tail _ (List.Mem.tail _ (List.Mem.tail _ (List.Mem.tail _ (List.Mem.tail _ (List.Mem.tail _ (List.Mem.tail _ (List.Mem.tail _ (List.Mem.head _)))))))))))))
  have cb0 := H.cell (w.heap.size + 1) 0 (.int .i64 bn) (List.Mem.tail _ (List.Mem.tail _ (List.Mem.tail _ (List.Mem.tail _ (List.Mem.tail _ (List.Mem.tail _ (List.Mem.tail _ (List.Mem.tail _ (List.Mem.head _)))))))))
  have cb1 := H.cell (w.heap.size + 1) 1 (.int .i64 bd) (List.Mem.tail _ (List.Mem.tail _ (List.Mem.tail _ (List.Mem.tail _ (List.Mem.tail _ (List.Mem.tail _ (List.Mem.tail _ (List.Mem.tail _ (List.Mem.tail _ (List.Mem.head _))))))))))
  have lb := H.lt (w.heap.size + 1) 0 (.int .i64 bn) (List.Mem.tail _ (List.Mem.tail _ (List.Mem.tail _ (List.Mem.tail _ (List.Mem.tail _ (List.Mem.tail _ (List.Mem.tail _ (List.Mem.tail _ (List.Mem.head _)))))))))
  go_wp2_with fail
  clear ca0 ca1 la cb0 cb1 lb
  replace H := (H.pair (w6.heap.size) (.int .i64 pn) (.int .i64 pd) 23 rfl)
  (with_reducible refine (C4.out _).mono ?_)
  rw [PN.out, PD.out, PE.out]
  rintro e w7 ⟨rfl, hb⟩
  replace H := H.below hb
  clear hb
  go_wp2_with fail
  replace H := (H.pair (w7.heap.size) (.int .i64 pn) (.int .i64 pd) 23 rfl)
  have KS : Hid (∀ w' : World, Held w [.cell (w7.heap.size) 0 (.int .i64 pn), .cell (w7.heap.size) 1 (.int .i64 pd), .free (w7.heap.size) 0, .free (w7.heap.size) 1, .cell (w6.heap.size) 0 (.int .i64 pn), .cell (w6.heap.size) 1 (.int .i64 pd), .free (w6.heap.size) 0, .free (w6.heap.size) 1, .cell (w5.heap.size) 0 (.int .i64 sn), .cell (w5.heap.size) 1 (.int .i64 sd), .free (w5.heap.size) 0, .free (w5.heap.size) 1, .cell (w4.heap.size) 0 (.int .i64 sn), .cell (w4.heap.size) 1 (.int .i64 sd), .free (w4.heap.size) 0, .free (w4.heap.size) 1, .cell (w.heap.size + 1) 0 (.int .i64 bn), .cell (w.heap.size + 1) 1 (.int .i64 bd), .free (w.heap.size + 1) 0, .free (w.heap.size + 1) 1, .cell (w.heap.size) 0 (.int .i64 an), .cell (w.heap.size) 1 (.int .i64 ad), .free (w.heap.size) 0, .free (w.heap.size) 1] w' → w'.cell? ⟨w.heap.size, 0, none⟩ = some (.int .i64 an) ∧ w'.cell? ⟨w.heap.size, 1, none⟩ = some (.int .i64 ad) ∧ w'.cell? ⟨w.heap.size + 1, 0, none⟩ = some (.int .i64 bn) ∧ w'.cell? ⟨w.heap.size + 1, 1, none⟩ = some (.int .i64 bd) ∧ w'.cell? ⟨w4.heap.size, 0, none⟩ = some (.int .i64 sn) ∧ w'.cell? ⟨w4.heap.size, 1, none⟩ = some (.int .i64 sd) ∧ w'.cell? ⟨w5.heap.size, 0, none⟩ = some (.int .i64 sn) ∧ w'.cell? ⟨w5.heap.size, 1, none⟩ = some (.int .i64 sd) ∧ w'.cell? ⟨w6.heap.size, 0, none⟩ = some (.int .i64 pn) ∧ w'.cell? ⟨w6.heap.size, 1, none⟩ = some (.int .i64 pd) ∧ w'.cell? ⟨w7.heap.size, 0, none⟩ = some (.int .i64 pn) ∧ w'.cell? ⟨w7.heap.size, 1, none⟩ = some (.int .i64 pd) ∧ Held w [.cell (w7.heap.size) 0 (.int .i64 pn), .cell (w7.heap.size) 1 (.int .i64 pd), .free (w7.heap.size) 0, .free (w7.heap.size) 1, .cell (w6.heap.size) 0 (.int .i64 pn), .cell (w6.heap.size) 1 (.int .i64 pd), .free (w6.heap.size) 0, .free (w6.heap.size) 1, .cell (w5.heap.size) 0 (.int .i64 sn), .cell (w5.heap.size) 1 (.int .i64 sd), .free (w5.heap.size) 0, .free (w5.heap.size) 1, .cell (w4.heap.size) 0 (.int .i64 sn), .cell (w4.heap.size) 1 (.int .i64 sd), .free (w4.heap.size) 0, .free (w4.heap.size) 1, .cell (w.heap.size + 1) 0 (.int .i64 bn), .cell (w.heap.size + 1) 1 (.int .i64 bd), .free (w.heap.size + 1) 0, .free (w.heap.size + 1) 1, .cell (w.heap.size) 0 (.int .i64 an), .cell (w.heap.size) 1 (.int .i64 ad), .free (w.heap.size) 0, .free (w.heap.size) 1] w') := Lib.hid (fun _ h => ⟨h.cell (w.heap.size) 0 (.int .i64 an) (List.Mem.tail _ (List.Mem.tail _ (List.Mem.tail _ (List.Mem.tail _ (List.Mem.tail _ (List.Mem.tail _ (List.Mem.tail _ (List.Mem.tail _ (List.Mem.tail _ (List.Mem.tail _ (List.Mem.tail _ (List.Mem.tail _ (List.Mem.tail _ (List.Mem.tail _ (List.Mem.tail _ (List.Mem.tail _ (List.Mem.tail _ (List.Mem.tail _ (List.Mem.tail _ (List.Mem.tail _ (List.Mem.head _))))))))))))))))))))), h.cell (w.heap.size) 1 (.int .i64 ad) (List.Mem.tail _ (List.Mem.tail _ (List.Mem.tail _ (List.Mem.tail _ (List.Mem.tail _ (List.Mem.tail _ (List.Mem.tail _ (List.Mem.tail _ (List.Mem.tail _ (List.Mem.tail _ (List.Mem.tail _ (List.Mem.tail _ (List.Mem.tail _ (List.Mem.tail _ (List.Mem.tail _ (List.Mem.tail _ (List.Mem.tail _ (List.Mem.tail _ (List.Mem.tail _ (List.Mem.tail _ (List.Mem.tail _ (List.Mem.head _)))))))))))))))))))))), h.cell (w.heap.size + 1) 0 (.int .i64 bn) (List.Mem.tail _ (List.Mem.tail _ (List.Mem.tail _ (List.Mem.tail _ (List.Mem.tail _ (List.Mem.tail _ (List.Mem.tail _ (List.Mem.tail _ (List.Mem.tail _ (List.Mem.tail _ (List.Mem.tail _ (List.Mem.tail _ (List.Mem.tail _ (List.Mem.tail _ (List.Mem.tail _ (List.Mem.tail _ (List.Mem.head _))))))))))))))))), h.cell (w.heap.size + 1) 1 (.int .i64 bd) (List.Mem.tail _ (List.Mem.tail _ (List.Mem.tail _ (List.Mem.tail _ (List.Mem.tail _ (List.Mem.tail _ (List.Mem.tail _ (List.Mem.tail _ (List.Mem.tail _ (List.Mem.tail _ (List.Mem.tail _ (List.Mem.tail _ (List.Mem.tail _ (List.Mem.tail _ (List.Mem.tail _ (List.Mem.tail _ (List.Mem.tail _ (List.Mem.head _)))))))))))))))))), h.cell (w4.heap.size) 0 (.int .i64 sn) (List.Mem.tail _ (List.Mem.tail _ (List.Mem.tail _ (List.Mem.tail _ (List.Mem.tail _ (List.Mem.tail _ (List.Mem.tail _ (List.Mem.tail _ (List.Mem.tail _ (List.Mem.tail _ (List.Mem.tail _ (List.Mem.tail _ (List.Mem.head _))))))))))))), h.cell (w4.heap.size) 1 (.int .i64 sd) (List.Mem.tail _ (List.Mem.tail _ (List.Mem.tail _ (List.Mem.tail _ (List.Mem.tail _ (List.Mem.tail _ (List.Mem.tail _ (List.Mem.tail _ (List.Mem.tail _ (List.Mem.tail _ (List.Mem.tail _ (List.Mem.tail _ (List.Mem.tail _ (List.Mem.head _)))))))))))))), h.cell (w5.heap.size) 0 (.int .i64 sn) (List.Mem.tail _ (List.Mem.tail _ (List.Mem.tail _ (List.Mem.tail _ (List.Mem.tail _ (List.Mem.tail _ (List.Mem.tail _ (List.Mem.tail _ (List.Mem.head _))))))))), h.cell (w5.heap.size) 1 (.int .i64 sd) (List.Mem.tail _ (List.Mem.tail _ (List.Mem.tail _ (List.Mem.tail _ (List.Mem.tail _ (List.Mem.tail _ (List.Mem.tail _ (List.Mem.tail _ (List.Mem.tail _ (List.Mem.head _)))))))))), h.cell (w6.heap.size) 0 (.int .i64 pn) (List.Mem.tail _ (List.Mem.tail _ (List.Mem.tail _ (List.Mem.tail _ (List.Mem.head _))))), h.cell (w6.heap.size) 1 (.int .i64 pd) (List.Mem.tail _ (List.Mem.tail _ (List.Mem.tail _ (List.Mem.tail _ (List.Mem.tail _ (List.Mem.head _)))))), h.cell (w7.heap.size) 0 (.int .i64 pn) (List.Mem.head _), h.cell (w7.heap.size) 1 (.int .i64 pd) (List.Mem.tail _ (List.Mem.head _)), h⟩)
  have KH : Hid (∀ w' : World, w'.cell? ⟨w.heap.size, 0, none⟩ = some (.int .i64 an) ∧ w'.cell? ⟨w.heap.size, 1, none⟩ = some (.int .i64 ad) ∧ w'.cell? ⟨w.heap.size + 1, 0, none⟩ = some (.int .i64 bn) ∧ w'.cell? ⟨w.heap.size + 1, 1, none⟩ = some (.int .i64 bd) ∧ w'.cell? ⟨w4.heap.size, 0, none⟩ = some (.int .i64 sn) ∧ w'.cell? ⟨w4.heap.size, 1, none⟩ = some (.int .i64 sd) ∧ w'.cell? ⟨w5.heap.size, 0, none⟩ = some (.int .i64 sn) ∧ w'.cell? ⟨w5.heap.size, 1, none⟩ = some (.int .i64 sd) ∧ w'.cell? ⟨w6.heap.size, 0, none⟩ = some (.int .i64 pn) ∧ w'.cell? ⟨w6.heap.size, 1, none⟩ = some (.int .i64 pd) ∧ w'.cell? ⟨w7.heap.size, 0, none⟩ = some (.int .i64 pn) ∧ w'.cell? ⟨w7.heap.size, 1, none⟩ = some (.int .i64 pd) ∧ Held w [.cell (w7.heap.size) 0 (.int .i64 pn), .cell (w7.heap.size) 1 (.int .i64 pd), .free (w7.heap.size) 0, .free (w7.heap.size) 1, .cell (w6.heap.size) 0 (.int .i64 pn), .cell (w6.heap.size) 1 (.int .i64 pd), .free (w6.heap.size) 0, .free (w6.heap.size) 1, .cell (w5.heap.size) 0 (.int .i64 sn), .cell (w5.heap.size) 1 (.int .i64 sd), .free (w5.heap.size) 0, .free (w5.heap.size) 1, .cell (w4.heap.size) 0 (.int .i64 sn), .cell (w4.heap.size) 1 (.int .i64 sd), .free (w4.heap.size) 0, .free (w4.heap.size) 1, .cell (w.heap.size + 1) 0 (.int .i64 bn), .cell (w.heap.size + 1) 1 (.int .i64 bd), .free (w.heap.size + 1) 0, .free (w.heap.size + 1) 1, .cell (w.heap.size) 0 (.int .i64 an), .cell (w.heap.size) 1 (.int .i64 ad), .free (w.heap.size) 0, .free (w.heap.size) 1] w' → Held w [.cell (w7.heap.size) 0 (.int .i64 pn), .cell (w7.heap.size) 1 (.int .i64 pd), .free (w7.heap.size) 0, .free (w7.heap.size) 1, .cell (w6.heap.size) 0 (.int .i64 pn), .cell (w6.heap.size) 1 (.int .i64 pd), .free (w6.heap.size) 0, .free (w6.heap.size) 1, .cell (w5.heap.size) 0 (.int .i64 sn), .cell (w5.heap.size) 1 (.int .i64 sd), .free (w5.heap.size) 0, .free (w5.heap.size) 1, .cell (w4.heap.size) 0 (.int .i64 sn), .cell (w4.heap.size) 1 (.int .i64 sd), .free (w4.heap.size) 0, .free (w4.heap.size) 1, .cell (w.heap.size + 1) 0 (.int .i64 bn), .cell (w.heap.size + 1) 1 (.int .i64 bd), .free (w.heap.size + 1) 0, .free (w.heap.size + 1) 1, .cell (w.heap.size) 0 (.int .i64 an), .cell (w.heap.size) 1 (.int .i64 ad), .free (w.heap.size) 0, .free (w.heap.size) 1] w') := Lib.hid (fun _ h => h.2.2.2.2.2.2.2.2.2.2.2.2)
  have HS := Lib.hid (KS.out _ H.drew)
  go_region_held3 (fun w' => w'.cell? ⟨w.heap.size, 0, none⟩ = some (.int .i64 an) ∧ w'.cell? ⟨w.heap.size, 1, none⟩ = some (.int .i64 ad) ∧ w'.cell? ⟨w.heap.size + 1, 0, none⟩ = some (.int .i64 bn) ∧ w'.cell? ⟨w.heap.size + 1, 1, none⟩ = some (.int .i64 bd) ∧ w'.cell? ⟨w4.heap.size, 0, none⟩ = some (.int .i64 sn) ∧ w'.cell? ⟨w4.heap.size, 1, none⟩ = some (.int .i64 sd) ∧ w'.cell? ⟨w5.heap.size, 0, none⟩ = some (.int .i64 sn) ∧ w'.cell? ⟨w5.heap.size, 1, none⟩ = some (.int .i64 sd) ∧ w'.cell? ⟨w6.heap.size, 0, none⟩ = some (.int .i64 pn) ∧ w'.cell? ⟨w6.heap.size, 1, none⟩ = some (.int .i64 pd) ∧ w'.cell? ⟨w7.heap.size, 0, none⟩ = some (.int .i64 pn) ∧ w'.cell? ⟨w7.heap.size, 1, none⟩ = some (.int .i64 pd) ∧ Held w [.cell (w7.heap.size) 0 (.int .i64 pn), .cell (w7.heap.size) 1 (.int .i64 pd), .free (w7.heap.size) 0, .free (w7.heap.size) 1, .cell (w6.heap.size) 0 (.int .i64 pn), .cell (w6.heap.size) 1 (.int .i64 pd), .free (w6.heap.size) 0, .free (w6.heap.size) 1, .cell (w5.heap.size) 0 (.int .i64 sn), .cell (w5.heap.size) 1 (.int .i64 sd), .free (w5.heap.size) 0, .free (w5.heap.size) 1, .cell (w4.heap.size) 0 (.int .i64 sn), .cell (w4.heap.size) 1 (.int .i64 sd), .free (w4.heap.size) 0, .free (w4.heap.size) 1, .cell (w.heap.size + 1) 0 (.int .i64 bn), .cell (w.heap.size + 1) 1 (.int .i64 bd), .free (w.heap.size + 1) 0, .free (w.heap.size + 1) 1, .cell (w.heap.size) 0 (.int .i64 an), .cell (w.heap.size) 1 (.int .i64 ad), .free (w.heap.size) 0, .free (w.heap.size) 1] w')
    (first | exact HS.out | (refine KS.out _ (Held.below (KH.out _ ?_) hb); assumption) | (refine KS.out _ (Held.alloc (KH.out _ ?_) _); assumption))
    (first
      | (go_at_call 22; (with_reducible refine (rcmp_is an ad bn bd c _ a0 a1 (by omega) a3 b0 b1 (by omega) b3 HC.out).mono ?_); rintro e w' ⟨rfl, hb⟩)
      | (go_at_call 23; (with_reducible refine (C6.out _).mono ?_); rw [HC.out]; rintro e w' ⟨rfl, hb⟩))
  all_goals
    go_wp2
    go_ret
    exact ⟨rfl, (KH.out _ (by assumption)).old⟩

theorem rexact_walk (an ad bn bd : Int) (w : World) (h1 : (-9223372036854775808 ≤ an ∧ an < 9223372036854775808)) (h2 : (-9223372036854775808 ≤ ad ∧ ad < 9223372036854775808)) (h3 : (-9223372036854775808 ≤ bn ∧ bn < 9223372036854775808)) (h4 : (-9223372036854775808 ≤ bd ∧ bd < 9223372036854775808)) :
    Calls Try.prog 4 #[.agg #[.int .i64 an, .int .i64 ad], .agg #[.int .i64 bn, .int .i64 bd]] w fun e w' => e = .returned (.bool true) ∧ Below w.heap.size w w' := by
  cases ha : rightB an ad
  · exact rexact_no1 an ad bn bd w ha
  · cases hb : rightB bn bd
    · exact rexact_no2 an ad bn bd w ha hb
    · exact rexact_yes an ad bn bd w ha hb
end Go.Proofs.Ytghhnpbepilefaa
