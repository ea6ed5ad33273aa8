/- CountNames: the walk. -/
import Derived.Test.YtkmchbllnfoccaaGreatDoorCoShown
namespace Go.Proofs.YtkmchbllnfoccaaGreatDoor
open Go.RowKit
set_option linter.unusedVariables false
set_option linter.unusedSimpArgs false

theorem nm_eq (i j : Int) (h : 0 ≤ i ∧ i ≤ 6) : ((nm i).toList == (nm j).toList) = decide (i = j) := by
  by_cases hj : j < 0 ∨ 6 < j
  · rw [nm_out j hj, decide_eq_false (by omega)]
    rcases of7 i h with rfl | rfl | rfl | rfl | rfl | rfl | rfl <;> decide +kernel
  · rcases of7 i h with rfl | rfl | rfl | rfl | rfl | rfl | rfl <;> rcases of7 j (by omega) with rfl | rfl | rfl | rfl | rfl | rfl | rfl <;> decide +kernel
theorem nm_some (i : Int) (h : 0 ≤ i ∧ i ≤ 6) : (nm i).toList.isEmpty = false ∧ kd (nm i) = (i, 0) := by
  rcases of7 i h with rfl | rfl | rfl | rfl | rfl | rfl | rfl <;> exact ⟨by decide +kernel, by decide +kernel⟩
theorem kd_none : kd ⟨#[]⟩ = (0, 10) := by decide +kernel

set_option maxHeartbeats 4000000 in
set_option maxRecDepth 100000 in
theorem cnames_low (K : CWay) (i j : Int) (T : ByteArray) (w : World) (hL : FactsC w) (bi : i64B i) (bj : i64B j) (h : i < 0) (E2 : nm j = T) :
    Calls Tryz.prog 4 #[.int .i64 i, .int .i64 j] w fun e w' => e = .returned (.bool true) ∧ Below w.heap.size w w' := by
  have H := (Held.start w).add (f := factsCF) hL
  clear hL
  have E1 : nm i = ⟨#[]⟩ := nm_out i (Or.inl h)
  have E3 := kd_none
  have t1 : decide (i < 0) = true := decide_eq_true h
  go_enter Tryz.func4, Tryz.ntmps4
  go_wp2_with fail
  (with_reducible refine (coshown_any K _ (H.factsC (List.Mem.head _))).mono ?_)
  rintro e w1 ⟨rfl, hb⟩
  replace H := H.below hb
  clear hb
  go_wp2_with fail
  (with_reducible refine (K.name i (⟨#[]⟩ : ByteArray) _ (H.factsC (List.Mem.head _)) bi E1).mono ?_)
  rintro e w2 ⟨rfl, hb⟩
  replace H := H.below hb
  clear hb
  go_wp2_with fail
  (with_reducible refine (K.name j T _ (H.factsC (List.Mem.head _)) bj E2).mono ?_)
  rintro e w3 ⟨rfl, hb⟩
  replace H := H.below hb
  clear hb
  go_wp2_with fail
  (with_reducible refine (K.kind _ 0 10 _ (H.factsC (List.Mem.head _)) E3).mono ?_)
  rintro e w4 ⟨rfl, hb⟩
  replace H := H.below hb
  clear hb
  go_wp2_with fail
  go_ret
  exact ⟨rfl, H.old⟩

set_option maxHeartbeats 4000000 in
set_option maxRecDepth 100000 in
theorem cnames_high (K : CWay) (i j : Int) (T : ByteArray) (w : World) (hL : FactsC w) (bi : i64B i) (bj : i64B j) (h : 6 < i) (E2 : nm j = T) :
    Calls Tryz.prog 4 #[.int .i64 i, .int .i64 j] w fun e w' => e = .returned (.bool true) ∧ Below w.heap.size w w' := by
  have H := (Held.start w).add (f := factsCF) hL
  clear hL
  have E1 : nm i = ⟨#[]⟩ := nm_out i (Or.inr h)
  have E3 := kd_none
  have t1 : decide (i < 0) = false := decide_eq_false (by omega)
  have t2 : decide (i > 6) = true := decide_eq_true (by omega)
  go_enter Tryz.func4, Tryz.ntmps4
  go_wp2_with fail
  (with_reducible refine (coshown_any K _ (H.factsC (List.Mem.head _))).mono ?_)
  rintro e w1 ⟨rfl, hb⟩
  replace H := H.below hb
  clear hb
  go_wp2_with fail
  (with_reducible refine (K.name i (⟨#[]⟩ : ByteArray) _ (H.factsC (List.Mem.head _)) bi E1).mono ?_)
  rintro e w2 ⟨rfl, hb⟩
  replace H := H.below hb
  clear hb
  go_wp2_with fail
  (with_reducible refine (K.name j T _ (H.factsC (List.Mem.head _)) bj E2).mono ?_)
  rintro e w3 ⟨rfl, hb⟩
  replace H := H.below hb
  clear hb
  go_wp2_with fail
  (with_reducible refine (K.kind _ 0 10 _ (H.factsC (List.Mem.head _)) E3).mono ?_)
  rintro e w4 ⟨rfl, hb⟩
  replace H := H.below hb
  clear hb
  go_wp2_with fail
  go_ret
  exact ⟨rfl, H.old⟩

set_option maxHeartbeats 4000000 in
set_option maxRecDepth 100000 in
theorem cnames_same (K : CWay) (i j : Int) (S T : ByteArray) (w : World) (hL : FactsC w) (bi : i64B i) (bj : i64B j) (h : 0 ≤ i ∧ i ≤ 6) (hj : i = j) (E1 : nm i = S) (E2 : nm j = T) :
    Calls Tryz.prog 4 #[.int .i64 i, .int .i64 j] w fun e w' => e = .returned (.bool true) ∧ Below w.heap.size w w' := by
  have H := (Held.start w).add (f := factsCF) hL
  clear hL
  have E3 : kd S = (i, 0) := by rw [← E1]; exact (nm_some i h).2
  have e0 : S.toList.isEmpty = false := by rw [← E1]; exact (nm_some i h).1
  have e1 : (S.toList == T.toList) = true := by rw [← E1, ← E2, nm_eq i j h]; exact decide_eq_true hj
  have e2 : (i == j) = true := beq_iff_eq.2 hj
  have t1 : decide (i < 0) = false := decide_eq_false (by omega)
  have t2 : decide (i > 6) = false := decide_eq_false (by omega)
  clear h hj
  go_enter Tryz.func4, Tryz.ntmps4
  go_wp2_with fail
  (with_reducible refine (coshown_any K _ (H.factsC (List.Mem.head _))).mono ?_)
  rintro e w1 ⟨rfl, hb⟩
  replace H := H.below hb
  clear hb
  go_wp2_with fail
  (with_reducible refine (K.name i S _ (H.factsC (List.Mem.head _)) bi E1).mono ?_)
  rintro e w2 ⟨rfl, hb⟩
  replace H := H.below hb
  clear hb
  go_wp2_with fail
  (with_reducible refine (K.name j T _ (H.factsC (List.Mem.head _)) bj E2).mono ?_)
  rintro e w3 ⟨rfl, hb⟩
  replace H := H.below hb
  clear hb
  go_wp2_with fail
  (with_reducible refine (K.kind _ i 0 _ (H.factsC (List.Mem.head _)) E3).mono ?_)
  rintro e w4 ⟨rfl, hb⟩
  replace H := H.below hb
  clear hb
  go_wp2_with fail
  go_ret
  exact ⟨rfl, H.old⟩

set_option maxHeartbeats 4000000 in
set_option maxRecDepth 100000 in
theorem cnames_other (K : CWay) (i j : Int) (S T : ByteArray) (w : World) (hL : FactsC w) (bi : i64B i) (bj : i64B j) (h : 0 ≤ i ∧ i ≤ 6) (hj : ¬ i = j) (E1 : nm i = S) (E2 : nm j = T) :
    Calls Tryz.prog 4 #[.int .i64 i, .int .i64 j] w fun e w' => e = .returned (.bool true) ∧ Below w.heap.size w w' := by
  have H := (Held.start w).add (f := factsCF) hL
  clear hL
  have E3 : kd S = (i, 0) := by rw [← E1]; exact (nm_some i h).2
  have e0 : S.toList.isEmpty = false := by rw [← E1]; exact (nm_some i h).1
  have e1 : (S.toList == T.toList) = false := by rw [← E1, ← E2, nm_eq i j h]; exact decide_eq_false hj
  have e2 : (i == j) = false := beq_eq_false_iff_ne.2 hj
  have t1 : decide (i < 0) = false := decide_eq_false (by omega)
  have t2 : decide (i > 6) = false := decide_eq_false (by omega)
  clear h hj
  go_enter Tryz.func4, Tryz.ntmps4
  go_wp2_with fail
  (with_reducible refine (coshown_any K _ (H.factsC (List.Mem.head _))).mono ?_)
  rintro e w1 ⟨rfl, hb⟩
  replace H := H.below hb
  clear hb
  go_wp2_with fail
  (with_reducible refine (K.name i S _ (H.factsC (List.Mem.head _)) bi E1).mono ?_)
  rintro e w2 ⟨rfl, hb⟩
  replace H := H.below hb
  clear hb
  go_wp2_with fail
  (with_reducible refine (K.name j T _ (H.factsC (List.Mem.head _)) bj E2).mono ?_)
  rintro e w3 ⟨rfl, hb⟩
  replace H := H.below hb
  clear hb
  go_wp2_with fail
  (with_reducible refine (K.kind _ i 0 _ (H.factsC (List.Mem.head _)) E3).mono ?_)
  rintro e w4 ⟨rfl, hb⟩
  replace H := H.below hb
  clear hb
  go_wp2_with fail
  go_ret
  exact ⟨rfl, H.old⟩

theorem cnames_walk (K : CWay) (i j : Int) (w : World) (hL : FactsC w) (bi : i64B i) (bj : i64B j) :
    Calls Tryz.prog 4 #[.int .i64 i, .int .i64 j] w fun e w' => e = .returned (.bool true) ∧ Below w.heap.size w w' := by
  by_cases h1 : i < 0
  · exact cnames_low K i j _ w hL bi bj h1 rfl
  by_cases h2 : 6 < i
  · exact cnames_high K i j _ w hL bi bj h2 rfl
  by_cases h3 : i = j
  · exact cnames_same K i j _ _ w hL bi bj (by omega) h3 rfl rfl
  · exact cnames_other K i j _ _ w hL bi bj (by omega) h3 rfl rfl
end Go.Proofs.YtkmchbllnfoccaaGreatDoor
