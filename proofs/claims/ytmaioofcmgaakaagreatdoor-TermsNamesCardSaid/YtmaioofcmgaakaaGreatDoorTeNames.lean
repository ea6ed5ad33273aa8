/- TermsNames: the walk. -/
import Derived.Test.YtmaioofcmgaakaaGreatDoorTeShown
namespace Go.Proofs.YtmaioofcmgaakaaGreatDoor
open Go.RowKit
set_option linter.unusedVariables false
set_option linter.unusedSimpArgs false

theorem tn_eq (i j : Int) (h : 0 ≤ i ∧ i ≤ 2) : ((tn i).toList == (tn j).toList) = decide (i = j) := by
  by_cases hj : j < 0 ∨ 2 < j
  · rw [tn_out j hj, decide_eq_false (by omega)]
    rcases of3 i h with rfl | rfl | rfl <;> decide +kernel
  · rcases of3 i h with rfl | rfl | rfl <;> rcases of3 j (by omega) with rfl | rfl | rfl <;> decide +kernel
theorem tk_none : tk ⟨#[]⟩ = (0, 10) := by decide +kernel

set_option maxHeartbeats 4000000 in
set_option maxRecDepth 100000 in
theorem tenames_neg (i j : Int) (T : ByteArray) (w : World) (hL : FactsT w) (h : i < 0) (E2 : tn j = T) : Calls Tryz.prog 7 #[.int .i64 i, .int .i64 j] w fun e w' => e = .returned (.bool true) ∧ Below w.heap.size w w' := by
  have H := (Held.start w).add (f := factsTF) hL
  clear hL
  have t1 : decide (i ≥ 1) = false := decide_eq_false (by omega)
  have t2 : decide (i < 0) = true := decide_eq_true h
  have E1 : tn i = ⟨#[]⟩ := tn_out i (Or.inl h)
  have E3 := tk_none
  have E4 : fr i = 0 := fr_no (by unfold Mo; omega)
  go_enter Tryz.func7, Tryz.ntmps7
  go_wp2_with fail
  (with_reducible refine (teshown_any _ (H.factsT (by repeat (first | with_reducible exact List.mem_cons_self | with_reducible apply List.mem_cons_of_mem)))).mono ?_)
  rintro e w1 ⟨rfl, hb⟩
  replace H := H.below hb
  clear hb
  go_wp2_with fail
  (with_reducible refine (tname15 i (⟨#[]⟩ : ByteArray) _ (H.factsT (by repeat (first | with_reducible exact List.mem_cons_self | with_reducible apply List.mem_cons_of_mem))) E1).mono ?_)
  rintro e w2 ⟨rfl, hb⟩
  replace H := H.below hb
  clear hb
  go_wp2_with fail
  (with_reducible refine (tname15 j T _ (H.factsT (by repeat (first | with_reducible exact List.mem_cons_self | with_reducible apply List.mem_cons_of_mem))) E2).mono ?_)
  rintro e w3 ⟨rfl, hb⟩
  replace H := H.below hb
  clear hb
  go_wp2_with fail
  (with_reducible refine (tkind15 _ 0 10 _ (H.factsT (by repeat (first | with_reducible exact List.mem_cons_self | with_reducible apply List.mem_cons_of_mem))) E3).mono ?_)
  rintro e w4 ⟨rfl, hb⟩
  replace H := H.below hb
  clear hb
  go_wp2_with fail
  (with_reducible refine (tfreq15 i 0 _ E4).mono ?_)
  rintro e w5 ⟨rfl, hb⟩
  replace H := H.below hb
  clear hb
  go_wp2_with fail
  go_ret
  exact ⟨rfl, H.old⟩

set_option maxHeartbeats 4000000 in
set_option maxRecDepth 100000 in
theorem tenames_big (i j : Int) (T : ByteArray) (w : World) (hL : FactsT w) (h : 12 < i) (E2 : tn j = T) : Calls Tryz.prog 7 #[.int .i64 i, .int .i64 j] w fun e w' => e = .returned (.bool true) ∧ Below w.heap.size w w' := by
  have H := (Held.start w).add (f := factsTF) hL
  clear hL
  have t1 : decide (i ≥ 1) = true := decide_eq_true (by omega)
  have t0 : decide (i ≤ 12) = false := decide_eq_false (by omega)
  have t2 : decide (i < 0) = false := decide_eq_false (by omega)
  have t3 : decide (i > 2) = true := decide_eq_true (by omega)
  have E1 : tn i = ⟨#[]⟩ := tn_out i (Or.inr (by omega))
  have E3 := tk_none
  have E4 : fr i = 0 := fr_no (by unfold Mo; omega)
  go_enter Tryz.func7, Tryz.ntmps7
  go_wp2_with fail
  (with_reducible refine (teshown_any _ (H.factsT (by repeat (first | with_reducible exact List.mem_cons_self | with_reducible apply List.mem_cons_of_mem)))).mono ?_)
  rintro e w1 ⟨rfl, hb⟩
  replace H := H.below hb
  clear hb
  go_wp2_with fail
  (with_reducible refine (tname15 i (⟨#[]⟩ : ByteArray) _ (H.factsT (by repeat (first | with_reducible exact List.mem_cons_self | with_reducible apply List.mem_cons_of_mem))) E1).mono ?_)
  rintro e w2 ⟨rfl, hb⟩
  replace H := H.below hb
  clear hb
  go_wp2_with fail
  (with_reducible refine (tname15 j T _ (H.factsT (by repeat (first | with_reducible exact List.mem_cons_self | with_reducible apply List.mem_cons_of_mem))) E2).mono ?_)
  rintro e w3 ⟨rfl, hb⟩
  replace H := H.below hb
  clear hb
  go_wp2_with fail
  (with_reducible refine (tkind15 _ 0 10 _ (H.factsT (by repeat (first | with_reducible exact List.mem_cons_self | with_reducible apply List.mem_cons_of_mem))) E3).mono ?_)
  rintro e w4 ⟨rfl, hb⟩
  replace H := H.below hb
  clear hb
  go_wp2_with fail
  (with_reducible refine (tfreq15 i 0 _ E4).mono ?_)
  rintro e w5 ⟨rfl, hb⟩
  replace H := H.below hb
  clear hb
  go_wp2_with fail
  go_ret
  exact ⟨rfl, H.old⟩

set_option maxHeartbeats 4000000 in
set_option maxRecDepth 100000 in
theorem tenames_0t (j : Int) (S T : ByteArray) (w : World) (hL : FactsT w) (hj : 0 = j) (E1 : tn 0 = S) (E2 : tn j = T) : Calls Tryz.prog 7 #[.int .i64 0, .int .i64 j] w fun e w' => e = .returned (.bool true) ∧ Below w.heap.size w w' := by
  have H := (Held.start w).add (f := factsTF) hL
  clear hL
  have E3 : tk S = (0, 0) := by rw [← E1]; decide +kernel
  have E4 : fr 0 = 0 := by decide +kernel
  have e0 : S.toList.isEmpty = false := by rw [← E1]; decide +kernel
  have e1 : (S.toList == T.toList) = true := by rw [← E1, ← E2, tn_eq 0 j (by omega)]; exact decide_eq_true hj
  have e2 : ((0 : Int) == j) = true := beq_iff_eq.2 hj
  clear hj
  go_enter Tryz.func7, Tryz.ntmps7
  go_wp2_with fail
  (with_reducible refine (teshown_any _ (H.factsT (by repeat (first | with_reducible exact List.mem_cons_self | with_reducible apply List.mem_cons_of_mem)))).mono ?_)
  rintro e w1 ⟨rfl, hb⟩
  replace H := H.below hb
  clear hb
  go_wp2_with fail
  (with_reducible refine (tname15 0 S _ (H.factsT (by repeat (first | with_reducible exact List.mem_cons_self | with_reducible apply List.mem_cons_of_mem))) E1).mono ?_)
  rintro e w2 ⟨rfl, hb⟩
  replace H := H.below hb
  clear hb
  go_wp2_with fail
  (with_reducible refine (tname15 j T _ (H.factsT (by repeat (first | with_reducible exact List.mem_cons_self | with_reducible apply List.mem_cons_of_mem))) E2).mono ?_)
  rintro e w3 ⟨rfl, hb⟩
  replace H := H.below hb
  clear hb
  go_wp2_with fail
  (with_reducible refine (tkind15 _ 0 0 _ (H.factsT (by repeat (first | with_reducible exact List.mem_cons_self | with_reducible apply List.mem_cons_of_mem))) E3).mono ?_)
  rintro e w4 ⟨rfl, hb⟩
  replace H := H.below hb
  clear hb
  go_wp2_with fail
  (with_reducible refine (tfreq15 0 0 _ E4).mono ?_)
  rintro e w5 ⟨rfl, hb⟩
  replace H := H.below hb
  clear hb
  go_wp2_with fail
  go_ret
  exact ⟨rfl, H.old⟩

set_option maxHeartbeats 4000000 in
set_option maxRecDepth 100000 in
theorem tenames_0f (j : Int) (S T : ByteArray) (w : World) (hL : FactsT w) (hj : ¬ 0 = j) (E1 : tn 0 = S) (E2 : tn j = T) : Calls Tryz.prog 7 #[.int .i64 0, .int .i64 j] w fun e w' => e = .returned (.bool true) ∧ Below w.heap.size w w' := by
  have H := (Held.start w).add (f := factsTF) hL
  clear hL
  have E3 : tk S = (0, 0) := by rw [← E1]; decide +kernel
  have E4 : fr 0 = 0 := by decide +kernel
  have e0 : S.toList.isEmpty = false := by rw [← E1]; decide +kernel
  have e1 : (S.toList == T.toList) = false := by rw [← E1, ← E2, tn_eq 0 j (by omega)]; exact decide_eq_false hj
  have e2 : ((0 : Int) == j) = false := beq_eq_false_iff_ne.2 hj
  clear hj
  go_enter Tryz.func7, Tryz.ntmps7
  go_wp2_with fail
  (with_reducible refine (teshown_any _ (H.factsT (by repeat (first | with_reducible exact List.mem_cons_self | with_reducible apply List.mem_cons_of_mem)))).mono ?_)
  rintro e w1 ⟨rfl, hb⟩
  replace H := H.below hb
  clear hb
  go_wp2_with fail
  (with_reducible refine (tname15 0 S _ (H.factsT (by repeat (first | with_reducible exact List.mem_cons_self | with_reducible apply List.mem_cons_of_mem))) E1).mono ?_)
  rintro e w2 ⟨rfl, hb⟩
  replace H := H.below hb
  clear hb
  go_wp2_with fail
  (with_reducible refine (tname15 j T _ (H.factsT (by repeat (first | with_reducible exact List.mem_cons_self | with_reducible apply List.mem_cons_of_mem))) E2).mono ?_)
  rintro e w3 ⟨rfl, hb⟩
  replace H := H.below hb
  clear hb
  go_wp2_with fail
  (with_reducible refine (tkind15 _ 0 0 _ (H.factsT (by repeat (first | with_reducible exact List.mem_cons_self | with_reducible apply List.mem_cons_of_mem))) E3).mono ?_)
  rintro e w4 ⟨rfl, hb⟩
  replace H := H.below hb
  clear hb
  go_wp2_with fail
  (with_reducible refine (tfreq15 0 0 _ E4).mono ?_)
  rintro e w5 ⟨rfl, hb⟩
  replace H := H.below hb
  clear hb
  go_wp2_with fail
  go_ret
  exact ⟨rfl, H.old⟩

set_option maxHeartbeats 4000000 in
set_option maxRecDepth 100000 in
theorem tenames_1t (j : Int) (S T : ByteArray) (w : World) (hL : FactsT w) (hj : 1 = j) (E1 : tn 1 = S) (E2 : tn j = T) : Calls Tryz.prog 7 #[.int .i64 1, .int .i64 j] w fun e w' => e = .returned (.bool true) ∧ Below w.heap.size w w' := by
  have H := (Held.start w).add (f := factsTF) hL
  clear hL
  have E3 : tk S = (1, 0) := by rw [← E1]; decide +kernel
  have E4 : fr 1 = 12 := by decide +kernel
  have e0 : S.toList.isEmpty = false := by rw [← E1]; decide +kernel
  have e1 : (S.toList == T.toList) = true := by rw [← E1, ← E2, tn_eq 1 j (by omega)]; exact decide_eq_true hj
  have e2 : ((1 : Int) == j) = true := beq_iff_eq.2 hj
  clear hj
  go_enter Tryz.func7, Tryz.ntmps7
  go_wp2_with fail
  (with_reducible refine (teshown_any _ (H.factsT (by repeat (first | with_reducible exact List.mem_cons_self | with_reducible apply List.mem_cons_of_mem)))).mono ?_)
  rintro e w1 ⟨rfl, hb⟩
  replace H := H.below hb
  clear hb
  go_wp2_with fail
  (with_reducible refine (tname15 1 S _ (H.factsT (by repeat (first | with_reducible exact List.mem_cons_self | with_reducible apply List.mem_cons_of_mem))) E1).mono ?_)
  rintro e w2 ⟨rfl, hb⟩
  replace H := H.below hb
  clear hb
  go_wp2_with fail
  (with_reducible refine (tname15 j T _ (H.factsT (by repeat (first | with_reducible exact List.mem_cons_self | with_reducible apply List.mem_cons_of_mem))) E2).mono ?_)
  rintro e w3 ⟨rfl, hb⟩
  replace H := H.below hb
  clear hb
  go_wp2_with fail
  (with_reducible refine (tkind15 _ 1 0 _ (H.factsT (by repeat (first | with_reducible exact List.mem_cons_self | with_reducible apply List.mem_cons_of_mem))) E3).mono ?_)
  rintro e w4 ⟨rfl, hb⟩
  replace H := H.below hb
  clear hb
  go_wp2_with fail
  (with_reducible refine (tfreq15 1 12 _ E4).mono ?_)
  rintro e w5 ⟨rfl, hb⟩
  replace H := H.below hb
  clear hb
  go_wp2_with fail
  go_ret
  exact ⟨rfl, H.old⟩

set_option maxHeartbeats 4000000 in
set_option maxRecDepth 100000 in
theorem tenames_1f (j : Int) (S T : ByteArray) (w : World) (hL : FactsT w) (hj : ¬ 1 = j) (E1 : tn 1 = S) (E2 : tn j = T) : Calls Tryz.prog 7 #[.int .i64 1, .int .i64 j] w fun e w' => e = .returned (.bool true) ∧ Below w.heap.size w w' := by
  have H := (Held.start w).add (f := factsTF) hL
  clear hL
  have E3 : tk S = (1, 0) := by rw [← E1]; decide +kernel
  have E4 : fr 1 = 12 := by decide +kernel
  have e0 : S.toList.isEmpty = false := by rw [← E1]; decide +kernel
  have e1 : (S.toList == T.toList) = false := by rw [← E1, ← E2, tn_eq 1 j (by omega)]; exact decide_eq_false hj
  have e2 : ((1 : Int) == j) = false := beq_eq_false_iff_ne.2 hj
  clear hj
  go_enter Tryz.func7, Tryz.ntmps7
  go_wp2_with fail
  (with_reducible refine (teshown_any _ (H.factsT (by repeat (first | with_reducible exact List.mem_cons_self | with_reducible apply List.mem_cons_of_mem)))).mono ?_)
  rintro e w1 ⟨rfl, hb⟩
  replace H := H.below hb
  clear hb
  go_wp2_with fail
  (with_reducible refine (tname15 1 S _ (H.factsT (by repeat (first | with_reducible exact List.mem_cons_self | with_reducible apply List.mem_cons_of_mem))) E1).mono ?_)
  rintro e w2 ⟨rfl, hb⟩
  replace H := H.below hb
  clear hb
  go_wp2_with fail
  (with_reducible refine (tname15 j T _ (H.factsT (by repeat (first | with_reducible exact List.mem_cons_self | with_reducible apply List.mem_cons_of_mem))) E2).mono ?_)
  rintro e w3 ⟨rfl, hb⟩
  replace H := H.below hb
  clear hb
  go_wp2_with fail
  (with_reducible refine (tkind15 _ 1 0 _ (H.factsT (by repeat (first | with_reducible exact List.mem_cons_self | with_reducible apply List.mem_cons_of_mem))) E3).mono ?_)
  rintro e w4 ⟨rfl, hb⟩
  replace H := H.below hb
  clear hb
  go_wp2_with fail
  (with_reducible refine (tfreq15 1 12 _ E4).mono ?_)
  rintro e w5 ⟨rfl, hb⟩
  replace H := H.below hb
  clear hb
  go_wp2_with fail
  go_ret
  exact ⟨rfl, H.old⟩

set_option maxHeartbeats 4000000 in
set_option maxRecDepth 100000 in
theorem tenames_2t (j : Int) (S T : ByteArray) (w : World) (hL : FactsT w) (hj : 2 = j) (E1 : tn 2 = S) (E2 : tn j = T) : Calls Tryz.prog 7 #[.int .i64 2, .int .i64 j] w fun e w' => e = .returned (.bool true) ∧ Below w.heap.size w w' := by
  have H := (Held.start w).add (f := factsTF) hL
  clear hL
  have E3 : tk S = (2, 0) := by rw [← E1]; decide +kernel
  have E4 : fr 2 = 6 := by decide +kernel
  have e0 : S.toList.isEmpty = false := by rw [← E1]; decide +kernel
  have e1 : (S.toList == T.toList) = true := by rw [← E1, ← E2, tn_eq 2 j (by omega)]; exact decide_eq_true hj
  have e2 : ((2 : Int) == j) = true := beq_iff_eq.2 hj
  clear hj
  go_enter Tryz.func7, Tryz.ntmps7
  go_wp2_with fail
  (with_reducible refine (teshown_any _ (H.factsT (by repeat (first | with_reducible exact List.mem_cons_self | with_reducible apply List.mem_cons_of_mem)))).mono ?_)
  rintro e w1 ⟨rfl, hb⟩
  replace H := H.below hb
  clear hb
  go_wp2_with fail
  (with_reducible refine (tname15 2 S _ (H.factsT (by repeat (first | with_reducible exact List.mem_cons_self | with_reducible apply List.mem_cons_of_mem))) E1).mono ?_)
  rintro e w2 ⟨rfl, hb⟩
  replace H := H.below hb
  clear hb
  go_wp2_with fail
  (with_reducible refine (tname15 j T _ (H.factsT (by repeat (first | with_reducible exact List.mem_cons_self | with_reducible apply List.mem_cons_of_mem))) E2).mono ?_)
  rintro e w3 ⟨rfl, hb⟩
  replace H := H.below hb
  clear hb
  go_wp2_with fail
  (with_reducible refine (tkind15 _ 2 0 _ (H.factsT (by repeat (first | with_reducible exact List.mem_cons_self | with_reducible apply List.mem_cons_of_mem))) E3).mono ?_)
  rintro e w4 ⟨rfl, hb⟩
  replace H := H.below hb
  clear hb
  go_wp2_with fail
  (with_reducible refine (tfreq15 2 6 _ E4).mono ?_)
  rintro e w5 ⟨rfl, hb⟩
  replace H := H.below hb
  clear hb
  go_wp2_with fail
  go_ret
  exact ⟨rfl, H.old⟩

set_option maxHeartbeats 4000000 in
set_option maxRecDepth 100000 in
theorem tenames_2f (j : Int) (S T : ByteArray) (w : World) (hL : FactsT w) (hj : ¬ 2 = j) (E1 : tn 2 = S) (E2 : tn j = T) : Calls Tryz.prog 7 #[.int .i64 2, .int .i64 j] w fun e w' => e = .returned (.bool true) ∧ Below w.heap.size w w' := by
  have H := (Held.start w).add (f := factsTF) hL
  clear hL
  have E3 : tk S = (2, 0) := by rw [← E1]; decide +kernel
  have E4 : fr 2 = 6 := by decide +kernel
  have e0 : S.toList.isEmpty = false := by rw [← E1]; decide +kernel
  have e1 : (S.toList == T.toList) = false := by rw [← E1, ← E2, tn_eq 2 j (by omega)]; exact decide_eq_false hj
  have e2 : ((2 : Int) == j) = false := beq_eq_false_iff_ne.2 hj
  clear hj
  go_enter Tryz.func7, Tryz.ntmps7
  go_wp2_with fail
  (with_reducible refine (teshown_any _ (H.factsT (by repeat (first | with_reducible exact List.mem_cons_self | with_reducible apply List.mem_cons_of_mem)))).mono ?_)
  rintro e w1 ⟨rfl, hb⟩
  replace H := H.below hb
  clear hb
  go_wp2_with fail
  (with_reducible refine (tname15 2 S _ (H.factsT (by repeat (first | with_reducible exact List.mem_cons_self | with_reducible apply List.mem_cons_of_mem))) E1).mono ?_)
  rintro e w2 ⟨rfl, hb⟩
  replace H := H.below hb
  clear hb
  go_wp2_with fail
  (with_reducible refine (tname15 j T _ (H.factsT (by repeat (first | with_reducible exact List.mem_cons_self | with_reducible apply List.mem_cons_of_mem))) E2).mono ?_)
  rintro e w3 ⟨rfl, hb⟩
  replace H := H.below hb
  clear hb
  go_wp2_with fail
  (with_reducible refine (tkind15 _ 2 0 _ (H.factsT (by repeat (first | with_reducible exact List.mem_cons_self | with_reducible apply List.mem_cons_of_mem))) E3).mono ?_)
  rintro e w4 ⟨rfl, hb⟩
  replace H := H.below hb
  clear hb
  go_wp2_with fail
  (with_reducible refine (tfreq15 2 6 _ E4).mono ?_)
  rintro e w5 ⟨rfl, hb⟩
  replace H := H.below hb
  clear hb
  go_wp2_with fail
  go_ret
  exact ⟨rfl, H.old⟩

set_option maxHeartbeats 4000000 in
set_option maxRecDepth 100000 in
theorem tenames_3 (j : Int) (T : ByteArray) (w : World) (hL : FactsT w) (E2 : tn j = T) : Calls Tryz.prog 7 #[.int .i64 3, .int .i64 j] w fun e w' => e = .returned (.bool true) ∧ Below w.heap.size w w' := by
  have H := (Held.start w).add (f := factsTF) hL
  clear hL
  have E1 : tn 3 = ⟨#[]⟩ := tn_out 3 (Or.inr (by omega))
  have E3 := tk_none
  have E4 : fr 3 = 4 := by decide +kernel
  go_enter Tryz.func7, Tryz.ntmps7
  go_wp2_with fail
  (with_reducible refine (teshown_any _ (H.factsT (by repeat (first | with_reducible exact List.mem_cons_self | with_reducible apply List.mem_cons_of_mem)))).mono ?_)
  rintro e w1 ⟨rfl, hb⟩
  replace H := H.below hb
  clear hb
  go_wp2_with fail
  (with_reducible refine (tname15 3 (⟨#[]⟩ : ByteArray) _ (H.factsT (by repeat (first | with_reducible exact List.mem_cons_self | with_reducible apply List.mem_cons_of_mem))) E1).mono ?_)
  rintro e w2 ⟨rfl, hb⟩
  replace H := H.below hb
  clear hb
  go_wp2_with fail
  (with_reducible refine (tname15 j T _ (H.factsT (by repeat (first | with_reducible exact List.mem_cons_self | with_reducible apply List.mem_cons_of_mem))) E2).mono ?_)
  rintro e w3 ⟨rfl, hb⟩
  replace H := H.below hb
  clear hb
  go_wp2_with fail
  (with_reducible refine (tkind15 _ 0 10 _ (H.factsT (by repeat (first | with_reducible exact List.mem_cons_self | with_reducible apply List.mem_cons_of_mem))) E3).mono ?_)
  rintro e w4 ⟨rfl, hb⟩
  replace H := H.below hb
  clear hb
  go_wp2_with fail
  (with_reducible refine (tfreq15 3 4 _ E4).mono ?_)
  rintro e w5 ⟨rfl, hb⟩
  replace H := H.below hb
  clear hb
  go_wp2_with fail
  go_ret
  exact ⟨rfl, H.old⟩

set_option maxHeartbeats 4000000 in
set_option maxRecDepth 100000 in
theorem tenames_4 (j : Int) (T : ByteArray) (w : World) (hL : FactsT w) (E2 : tn j = T) : Calls Tryz.prog 7 #[.int .i64 4, .int .i64 j] w fun e w' => e = .returned (.bool true) ∧ Below w.heap.size w w' := by
  have H := (Held.start w).add (f := factsTF) hL
  clear hL
  have E1 : tn 4 = ⟨#[]⟩ := tn_out 4 (Or.inr (by omega))
  have E3 := tk_none
  have E4 : fr 4 = 3 := by decide +kernel
  go_enter Tryz.func7, Tryz.ntmps7
  go_wp2_with fail
  (with_reducible refine (teshown_any _ (H.factsT (by repeat (first | with_reducible exact List.mem_cons_self | with_reducible apply List.mem_cons_of_mem)))).mono ?_)
  rintro e w1 ⟨rfl, hb⟩
  replace H := H.below hb
  clear hb
  go_wp2_with fail
  (with_reducible refine (tname15 4 (⟨#[]⟩ : ByteArray) _ (H.factsT (by repeat (first | with_reducible exact List.mem_cons_self | with_reducible apply List.mem_cons_of_mem))) E1).mono ?_)
  rintro e w2 ⟨rfl, hb⟩
  replace H := H.below hb
  clear hb
  go_wp2_with fail
  (with_reducible refine (tname15 j T _ (H.factsT (by repeat (first | with_reducible exact List.mem_cons_self | with_reducible apply List.mem_cons_of_mem))) E2).mono ?_)
  rintro e w3 ⟨rfl, hb⟩
  replace H := H.below hb
  clear hb
  go_wp2_with fail
  (with_reducible refine (tkind15 _ 0 10 _ (H.factsT (by repeat (first | with_reducible exact List.mem_cons_self | with_reducible apply List.mem_cons_of_mem))) E3).mono ?_)
  rintro e w4 ⟨rfl, hb⟩
  replace H := H.below hb
  clear hb
  go_wp2_with fail
  (with_reducible refine (tfreq15 4 3 _ E4).mono ?_)
  rintro e w5 ⟨rfl, hb⟩
  replace H := H.below hb
  clear hb
  go_wp2_with fail
  go_ret
  exact ⟨rfl, H.old⟩

set_option maxHeartbeats 4000000 in
set_option maxRecDepth 100000 in
theorem tenames_5 (j : Int) (T : ByteArray) (w : World) (hL : FactsT w) (E2 : tn j = T) : Calls Tryz.prog 7 #[.int .i64 5, .int .i64 j] w fun e w' => e = .returned (.bool true) ∧ Below w.heap.size w w' := by
  have H := (Held.start w).add (f := factsTF) hL
  clear hL
  have E1 : tn 5 = ⟨#[]⟩ := tn_out 5 (Or.inr (by omega))
  have E3 := tk_none
  have E4 : fr 5 = 0 := by decide +kernel
  go_enter Tryz.func7, Tryz.ntmps7
  go_wp2_with fail
  (with_reducible refine (teshown_any _ (H.factsT (by repeat (first | with_reducible exact List.mem_cons_self | with_reducible apply List.mem_cons_of_mem)))).mono ?_)
  rintro e w1 ⟨rfl, hb⟩
  replace H := H.below hb
  clear hb
  go_wp2_with fail
  (with_reducible refine (tname15 5 (⟨#[]⟩ : ByteArray) _ (H.factsT (by repeat (first | with_reducible exact List.mem_cons_self | with_reducible apply List.mem_cons_of_mem))) E1).mono ?_)
  rintro e w2 ⟨rfl, hb⟩
  replace H := H.below hb
  clear hb
  go_wp2_with fail
  (with_reducible refine (tname15 j T _ (H.factsT (by repeat (first | with_reducible exact List.mem_cons_self | with_reducible apply List.mem_cons_of_mem))) E2).mono ?_)
  rintro e w3 ⟨rfl, hb⟩
  replace H := H.below hb
  clear hb
  go_wp2_with fail
  (with_reducible refine (tkind15 _ 0 10 _ (H.factsT (by repeat (first | with_reducible exact List.mem_cons_self | with_reducible apply List.mem_cons_of_mem))) E3).mono ?_)
  rintro e w4 ⟨rfl, hb⟩
  replace H := H.below hb
  clear hb
  go_wp2_with fail
  (with_reducible refine (tfreq15 5 0 _ E4).mono ?_)
  rintro e w5 ⟨rfl, hb⟩
  replace H := H.below hb
  clear hb
  go_wp2_with fail
  go_ret
  exact ⟨rfl, H.old⟩

set_option maxHeartbeats 4000000 in
set_option maxRecDepth 100000 in
theorem tenames_6 (j : Int) (T : ByteArray) (w : World) (hL : FactsT w) (E2 : tn j = T) : Calls Tryz.prog 7 #[.int .i64 6, .int .i64 j] w fun e w' => e = .returned (.bool true) ∧ Below w.heap.size w w' := by
  have H := (Held.start w).add (f := factsTF) hL
  clear hL
  have E1 : tn 6 = ⟨#[]⟩ := tn_out 6 (Or.inr (by omega))
  have E3 := tk_none
  have E4 : fr 6 = 2 := by decide +kernel
  go_enter Tryz.func7, Tryz.ntmps7
  go_wp2_with fail
  (with_reducible refine (teshown_any _ (H.factsT (by repeat (first | with_reducible exact List.mem_cons_self | with_reducible apply List.mem_cons_of_mem)))).mono ?_)
  rintro e w1 ⟨rfl, hb⟩
  replace H := H.below hb
  clear hb
  go_wp2_with fail
  (with_reducible refine (tname15 6 (⟨#[]⟩ : ByteArray) _ (H.factsT (by repeat (first | with_reducible exact List.mem_cons_self | with_reducible apply List.mem_cons_of_mem))) E1).mono ?_)
  rintro e w2 ⟨rfl, hb⟩
  replace H := H.below hb
  clear hb
  go_wp2_with fail
  (with_reducible refine (tname15 j T _ (H.factsT (by repeat (first | with_reducible exact List.mem_cons_self | with_reducible apply List.mem_cons_of_mem))) E2).mono ?_)
  rintro e w3 ⟨rfl, hb⟩
  replace H := H.below hb
  clear hb
  go_wp2_with fail
  (with_reducible refine (tkind15 _ 0 10 _ (H.factsT (by repeat (first | with_reducible exact List.mem_cons_self | with_reducible apply List.mem_cons_of_mem))) E3).mono ?_)
  rintro e w4 ⟨rfl, hb⟩
  replace H := H.below hb
  clear hb
  go_wp2_with fail
  (with_reducible refine (tfreq15 6 2 _ E4).mono ?_)
  rintro e w5 ⟨rfl, hb⟩
  replace H := H.below hb
  clear hb
  go_wp2_with fail
  go_ret
  exact ⟨rfl, H.old⟩

set_option maxHeartbeats 4000000 in
set_option maxRecDepth 100000 in
theorem tenames_7 (j : Int) (T : ByteArray) (w : World) (hL : FactsT w) (E2 : tn j = T) : Calls Tryz.prog 7 #[.int .i64 7, .int .i64 j] w fun e w' => e = .returned (.bool true) ∧ Below w.heap.size w w' := by
  have H := (Held.start w).add (f := factsTF) hL
  clear hL
  have E1 : tn 7 = ⟨#[]⟩ := tn_out 7 (Or.inr (by omega))
  have E3 := tk_none
  have E4 : fr 7 = 0 := by decide +kernel
  go_enter Tryz.func7, Tryz.ntmps7
  go_wp2_with fail
  (with_reducible refine (teshown_any _ (H.factsT (by repeat (first | with_reducible exact List.mem_cons_self | with_reducible apply List.mem_cons_of_mem)))).mono ?_)
  rintro e w1 ⟨rfl, hb⟩
  replace H := H.below hb
  clear hb
  go_wp2_with fail
  (with_reducible refine (tname15 7 (⟨#[]⟩ : ByteArray) _ (H.factsT (by repeat (first | with_reducible exact List.mem_cons_self | with_reducible apply List.mem_cons_of_mem))) E1).mono ?_)
  rintro e w2 ⟨rfl, hb⟩
  replace H := H.below hb
  clear hb
  go_wp2_with fail
  (with_reducible refine (tname15 j T _ (H.factsT (by repeat (first | with_reducible exact List.mem_cons_self | with_reducible apply List.mem_cons_of_mem))) E2).mono ?_)
  rintro e w3 ⟨rfl, hb⟩
  replace H := H.below hb
  clear hb
  go_wp2_with fail
  (with_reducible refine (tkind15 _ 0 10 _ (H.factsT (by repeat (first | with_reducible exact List.mem_cons_self | with_reducible apply List.mem_cons_of_mem))) E3).mono ?_)
  rintro e w4 ⟨rfl, hb⟩
  replace H := H.below hb
  clear hb
  go_wp2_with fail
  (with_reducible refine (tfreq15 7 0 _ E4).mono ?_)
  rintro e w5 ⟨rfl, hb⟩
  replace H := H.below hb
  clear hb
  go_wp2_with fail
  go_ret
  exact ⟨rfl, H.old⟩

set_option maxHeartbeats 4000000 in
set_option maxRecDepth 100000 in
theorem tenames_8 (j : Int) (T : ByteArray) (w : World) (hL : FactsT w) (E2 : tn j = T) : Calls Tryz.prog 7 #[.int .i64 8, .int .i64 j] w fun e w' => e = .returned (.bool true) ∧ Below w.heap.size w w' := by
  have H := (Held.start w).add (f := factsTF) hL
  clear hL
  have E1 : tn 8 = ⟨#[]⟩ := tn_out 8 (Or.inr (by omega))
  have E3 := tk_none
  have E4 : fr 8 = 0 := by decide +kernel
  go_enter Tryz.func7, Tryz.ntmps7
  go_wp2_with fail
  (with_reducible refine (teshown_any _ (H.factsT (by repeat (first | with_reducible exact List.mem_cons_self | with_reducible apply List.mem_cons_of_mem)))).mono ?_)
  rintro e w1 ⟨rfl, hb⟩
  replace H := H.below hb
  clear hb
  go_wp2_with fail
  (with_reducible refine (tname15 8 (⟨#[]⟩ : ByteArray) _ (H.factsT (by repeat (first | with_reducible exact List.mem_cons_self | with_reducible apply List.mem_cons_of_mem))) E1).mono ?_)
  rintro e w2 ⟨rfl, hb⟩
  replace H := H.below hb
  clear hb
  go_wp2_with fail
  (with_reducible refine (tname15 j T _ (H.factsT (by repeat (first | with_reducible exact List.mem_cons_self | with_reducible apply List.mem_cons_of_mem))) E2).mono ?_)
  rintro e w3 ⟨rfl, hb⟩
  replace H := H.below hb
  clear hb
  go_wp2_with fail
  (with_reducible refine (tkind15 _ 0 10 _ (H.factsT (by repeat (first | with_reducible exact List.mem_cons_self | with_reducible apply List.mem_cons_of_mem))) E3).mono ?_)
  rintro e w4 ⟨rfl, hb⟩
  replace H := H.below hb
  clear hb
  go_wp2_with fail
  (with_reducible refine (tfreq15 8 0 _ E4).mono ?_)
  rintro e w5 ⟨rfl, hb⟩
  replace H := H.below hb
  clear hb
  go_wp2_with fail
  go_ret
  exact ⟨rfl, H.old⟩

set_option maxHeartbeats 4000000 in
set_option maxRecDepth 100000 in
theorem tenames_9 (j : Int) (T : ByteArray) (w : World) (hL : FactsT w) (E2 : tn j = T) : Calls Tryz.prog 7 #[.int .i64 9, .int .i64 j] w fun e w' => e = .returned (.bool true) ∧ Below w.heap.size w w' := by
  have H := (Held.start w).add (f := factsTF) hL
  clear hL
  have E1 : tn 9 = ⟨#[]⟩ := tn_out 9 (Or.inr (by omega))
  have E3 := tk_none
  have E4 : fr 9 = 0 := by decide +kernel
  go_enter Tryz.func7, Tryz.ntmps7
  go_wp2_with fail
  (with_reducible refine (teshown_any _ (H.factsT (by repeat (first | with_reducible exact List.mem_cons_self | with_reducible apply List.mem_cons_of_mem)))).mono ?_)
  rintro e w1 ⟨rfl, hb⟩
  replace H := H.below hb
  clear hb
  go_wp2_with fail
  (with_reducible refine (tname15 9 (⟨#[]⟩ : ByteArray) _ (H.factsT (by repeat (first | with_reducible exact List.mem_cons_self | with_reducible apply List.mem_cons_of_mem))) E1).mono ?_)
  rintro e w2 ⟨rfl, hb⟩
  replace H := H.below hb
  clear hb
  go_wp2_with fail
  (with_reducible refine (tname15 j T _ (H.factsT (by repeat (first | with_reducible exact List.mem_cons_self | with_reducible apply List.mem_cons_of_mem))) E2).mono ?_)
  rintro e w3 ⟨rfl, hb⟩
  replace H := H.below hb
  clear hb
  go_wp2_with fail
  (with_reducible refine (tkind15 _ 0 10 _ (H.factsT (by repeat (first | with_reducible exact List.mem_cons_self | with_reducible apply List.mem_cons_of_mem))) E3).mono ?_)
  rintro e w4 ⟨rfl, hb⟩
  replace H := H.below hb
  clear hb
  go_wp2_with fail
  (with_reducible refine (tfreq15 9 0 _ E4).mono ?_)
  rintro e w5 ⟨rfl, hb⟩
  replace H := H.below hb
  clear hb
  go_wp2_with fail
  go_ret
  exact ⟨rfl, H.old⟩

set_option maxHeartbeats 4000000 in
set_option maxRecDepth 100000 in
theorem tenames_10 (j : Int) (T : ByteArray) (w : World) (hL : FactsT w) (E2 : tn j = T) : Calls Tryz.prog 7 #[.int .i64 10, .int .i64 j] w fun e w' => e = .returned (.bool true) ∧ Below w.heap.size w w' := by
  have H := (Held.start w).add (f := factsTF) hL
  clear hL
  have E1 : tn 10 = ⟨#[]⟩ := tn_out 10 (Or.inr (by omega))
  have E3 := tk_none
  have E4 : fr 10 = 0 := by decide +kernel
  go_enter Tryz.func7, Tryz.ntmps7
  go_wp2_with fail
  (with_reducible refine (teshown_any _ (H.factsT (by repeat (first | with_reducible exact List.mem_cons_self | with_reducible apply List.mem_cons_of_mem)))).mono ?_)
  rintro e w1 ⟨rfl, hb⟩
  replace H := H.below hb
  clear hb
  go_wp2_with fail
  (with_reducible refine (tname15 10 (⟨#[]⟩ : ByteArray) _ (H.factsT (by repeat (first | with_reducible exact List.mem_cons_self | with_reducible apply List.mem_cons_of_mem))) E1).mono ?_)
  rintro e w2 ⟨rfl, hb⟩
  replace H := H.below hb
  clear hb
  go_wp2_with fail
  (with_reducible refine (tname15 j T _ (H.factsT (by repeat (first | with_reducible exact List.mem_cons_self | with_reducible apply List.mem_cons_of_mem))) E2).mono ?_)
  rintro e w3 ⟨rfl, hb⟩
  replace H := H.below hb
  clear hb
  go_wp2_with fail
  (with_reducible refine (tkind15 _ 0 10 _ (H.factsT (by repeat (first | with_reducible exact List.mem_cons_self | with_reducible apply List.mem_cons_of_mem))) E3).mono ?_)
  rintro e w4 ⟨rfl, hb⟩
  replace H := H.below hb
  clear hb
  go_wp2_with fail
  (with_reducible refine (tfreq15 10 0 _ E4).mono ?_)
  rintro e w5 ⟨rfl, hb⟩
  replace H := H.below hb
  clear hb
  go_wp2_with fail
  go_ret
  exact ⟨rfl, H.old⟩

set_option maxHeartbeats 4000000 in
set_option maxRecDepth 100000 in
theorem tenames_11 (j : Int) (T : ByteArray) (w : World) (hL : FactsT w) (E2 : tn j = T) : Calls Tryz.prog 7 #[.int .i64 11, .int .i64 j] w fun e w' => e = .returned (.bool true) ∧ Below w.heap.size w w' := by
  have H := (Held.start w).add (f := factsTF) hL
  clear hL
  have E1 : tn 11 = ⟨#[]⟩ := tn_out 11 (Or.inr (by omega))
  have E3 := tk_none
  have E4 : fr 11 = 0 := by decide +kernel
  go_enter Tryz.func7, Tryz.ntmps7
  go_wp2_with fail
  (with_reducible refine (teshown_any _ (H.factsT (by repeat (first | with_reducible exact List.mem_cons_self | with_reducible apply List.mem_cons_of_mem)))).mono ?_)
  rintro e w1 ⟨rfl, hb⟩
  replace H := H.below hb
  clear hb
  go_wp2_with fail
  (with_reducible refine (tname15 11 (⟨#[]⟩ : ByteArray) _ (H.factsT (by repeat (first | with_reducible exact List.mem_cons_self | with_reducible apply List.mem_cons_of_mem))) E1).mono ?_)
  rintro e w2 ⟨rfl, hb⟩
  replace H := H.below hb
  clear hb
  go_wp2_with fail
  (with_reducible refine (tname15 j T _ (H.factsT (by repeat (first | with_reducible exact List.mem_cons_self | with_reducible apply List.mem_cons_of_mem))) E2).mono ?_)
  rintro e w3 ⟨rfl, hb⟩
  replace H := H.below hb
  clear hb
  go_wp2_with fail
  (with_reducible refine (tkind15 _ 0 10 _ (H.factsT (by repeat (first | with_reducible exact List.mem_cons_self | with_reducible apply List.mem_cons_of_mem))) E3).mono ?_)
  rintro e w4 ⟨rfl, hb⟩
  replace H := H.below hb
  clear hb
  go_wp2_with fail
  (with_reducible refine (tfreq15 11 0 _ E4).mono ?_)
  rintro e w5 ⟨rfl, hb⟩
  replace H := H.below hb
  clear hb
  go_wp2_with fail
  go_ret
  exact ⟨rfl, H.old⟩

set_option maxHeartbeats 4000000 in
set_option maxRecDepth 100000 in
theorem tenames_12 (j : Int) (T : ByteArray) (w : World) (hL : FactsT w) (E2 : tn j = T) : Calls Tryz.prog 7 #[.int .i64 12, .int .i64 j] w fun e w' => e = .returned (.bool true) ∧ Below w.heap.size w w' := by
  have H := (Held.start w).add (f := factsTF) hL
  clear hL
  have E1 : tn 12 = ⟨#[]⟩ := tn_out 12 (Or.inr (by omega))
  have E3 := tk_none
  have E4 : fr 12 = 1 := by decide +kernel
  go_enter Tryz.func7, Tryz.ntmps7
  go_wp2_with fail
  (with_reducible refine (teshown_any _ (H.factsT (by repeat (first | with_reducible exact List.mem_cons_self | with_reducible apply List.mem_cons_of_mem)))).mono ?_)
  rintro e w1 ⟨rfl, hb⟩
  replace H := H.below hb
  clear hb
  go_wp2_with fail
  (with_reducible refine (tname15 12 (⟨#[]⟩ : ByteArray) _ (H.factsT (by repeat (first | with_reducible exact List.mem_cons_self | with_reducible apply List.mem_cons_of_mem))) E1).mono ?_)
  rintro e w2 ⟨rfl, hb⟩
  replace H := H.below hb
  clear hb
  go_wp2_with fail
  (with_reducible refine (tname15 j T _ (H.factsT (by repeat (first | with_reducible exact List.mem_cons_self | with_reducible apply List.mem_cons_of_mem))) E2).mono ?_)
  rintro e w3 ⟨rfl, hb⟩
  replace H := H.below hb
  clear hb
  go_wp2_with fail
  (with_reducible refine (tkind15 _ 0 10 _ (H.factsT (by repeat (first | with_reducible exact List.mem_cons_self | with_reducible apply List.mem_cons_of_mem))) E3).mono ?_)
  rintro e w4 ⟨rfl, hb⟩
  replace H := H.below hb
  clear hb
  go_wp2_with fail
  (with_reducible refine (tfreq15 12 1 _ E4).mono ?_)
  rintro e w5 ⟨rfl, hb⟩
  replace H := H.below hb
  clear hb
  go_wp2_with fail
  go_ret
  exact ⟨rfl, H.old⟩

theorem tenames_walk (i j : Int) (w : World) (hL : FactsT w) (b0 : -9223372036854775808 ≤ i ∧ i < 9223372036854775808) (b1 : -9223372036854775808 ≤ j ∧ j < 9223372036854775808) :
    Calls Tryz.prog 7 #[.int .i64 i, .int .i64 j] w fun e w' => e = .returned (.bool true) ∧ Below w.heap.size w w' := by
  by_cases h1 : i < 0
  · exact tenames_neg i j _ w hL h1 rfl
  by_cases h2 : 12 < i
  · exact tenames_big i j _ w hL h2 rfl
  obtain rfl | rfl | rfl | rfl | rfl | rfl | rfl | rfl | rfl | rfl | rfl | rfl | rfl : i = 0 ∨ i = 1 ∨ i = 2 ∨ i = 3 ∨ i = 4 ∨ i = 5 ∨ i = 6 ∨ i = 7 ∨ i = 8 ∨ i = 9 ∨ i = 10 ∨ i = 11 ∨ i = 12 := by omega
  · by_cases h : 0 = j
    · exact tenames_0t j _ _ w hL h rfl rfl
    · exact tenames_0f j _ _ w hL h rfl rfl
  · by_cases h : 1 = j
    · exact tenames_1t j _ _ w hL h rfl rfl
    · exact tenames_1f j _ _ w hL h rfl rfl
  · by_cases h : 2 = j
    · exact tenames_2t j _ _ w hL h rfl rfl
    · exact tenames_2f j _ _ w hL h rfl rfl
  · exact tenames_3 j _ w hL rfl
  · exact tenames_4 j _ w hL rfl
  · exact tenames_5 j _ w hL rfl
  · exact tenames_6 j _ w hL rfl
  · exact tenames_7 j _ w hL rfl
  · exact tenames_8 j _ w hL rfl
  · exact tenames_9 j _ w hL rfl
  · exact tenames_10 j _ w hL rfl
  · exact tenames_11 j _ w hL rfl
  · exact tenames_12 j _ w hL rfl
end Go.Proofs.YtmaioofcmgaakaaGreatDoor
