/- TermsOrder: the walk, paths of the remainder 3. -/
import Derived.Test.YtmaioofcmgaakaaGreatDoorTeOrdNum
namespace Go.Proofs.YtmaioofcmgaakaaGreatDoor
open Go.RowKit
set_option linter.unusedVariables false
set_option linter.unusedSimpArgs false


set_option maxHeartbeats 4000000 in
set_option maxRecDepth 100000 in
theorem teorder_3____ (x u : Int) (w : World) (hL : FactsT w) (hx : 0 ≤ x ∧ x < 256) (hq : x % 4 = 3) (hp : x % 2 = 1) (hu : 739311 + x = u) : Calls Tryz.prog 5 #[.agg #[.bool false, .bool false, .bool false, .bool false, .int .u8 x]] w fun e w' => e = .returned (.bool true) ∧ Below w.heap.size w w' := by
  have H := (Held.start w).add (f := factsTF) hL
  clear hL
  have HC : Hid ((Tm.mk 100000 500 0 0 738945 739311 3 false false false 0).code = 0) := Lib.hid (ord_0 _ (by
    have bu : 739311 ≤ u ∧ u < 740000 := by omega
    clear hq hp hu
    unfold Tm.Form Tm.Days Tm.Own Mo; dsimp only; omega))
  go_enter Tryz.func5, Tryz.ntmps5
  go_wp2_with fail
  replace H := H.box_5 (w.heap.size) (.bool false) (.bool false) (.bool false) (.bool false) (.int .u8 x) 39 rfl
  (with_reducible refine (teshown_any _ (H.factsT (by repeat (first | with_reducible exact List.mem_cons_self | with_reducible apply List.mem_cons_of_mem)))).mono ?_)
  rintro e w1 ⟨rfl, hb⟩
  replace H := H.below hb
  clear hb
  go_wp2_with fail
  (with_reducible refine (good_is _).mono ?_)
  rintro e w2 ⟨rfl, hb⟩
  replace H := H.below hb
  clear hb
  go_wp2_with fail
  replace H := H.box_11 (w2.heap.size) (.int .i64 100000) (.int .i64 500) (.int .i64 0) (.int .i64 0) (.int .i64 738945) (.int .i64 739311) (.int .i64 3) (.bool false) (.bool false) (.bool false) (.int .i64 0) 23 rfl
  (with_reducible refine (check15 100000 500 0 0 738945 739311 3 false false false 0 0 _ (H.factsT (by repeat (first | with_reducible exact List.mem_cons_self | with_reducible apply List.mem_cons_of_mem))) HC.out).mono ?_)
  rintro e w3 ⟨rfl, hb⟩
  replace H := H.below hb
  clear hb
  go_wp2_with fail
  go_ret
  exact ⟨rfl, H.old⟩

set_option maxHeartbeats 4000000 in
set_option maxRecDepth 100000 in
theorem teorder_3___b (x u : Int) (w : World) (hL : FactsT w) (hx : 0 ≤ x ∧ x < 256) (hq : x % 4 = 3) (hp : x % 2 = 1) (hu : 739311 + x = u) : Calls Tryz.prog 5 #[.agg #[.bool false, .bool false, .bool false, .bool true, .int .u8 x]] w fun e w' => e = .returned (.bool true) ∧ Below w.heap.size w w' := by
  have H := (Held.start w).add (f := factsTF) hL
  clear hL
  have HC : Hid ((Tm.mk 1000000000000000 9001 0 0 738945 739311 3 false false false 0).code = 2) := Lib.hid (ord_2 _ (by
    have bu : 739311 ≤ u ∧ u < 740000 := by omega
    clear hq hp hu
    unfold Tm.Form Tm.Days Tm.Own Mo; dsimp only; omega))
  go_enter Tryz.func5, Tryz.ntmps5
  go_wp2_with fail
  replace H := H.box_5 (w.heap.size) (.bool false) (.bool false) (.bool false) (.bool true) (.int .u8 x) 39 rfl
  (with_reducible refine (teshown_any _ (H.factsT (by repeat (first | with_reducible exact List.mem_cons_self | with_reducible apply List.mem_cons_of_mem)))).mono ?_)
  rintro e w1 ⟨rfl, hb⟩
  replace H := H.below hb
  clear hb
  go_wp2_with fail
  (with_reducible refine (good_is _).mono ?_)
  rintro e w2 ⟨rfl, hb⟩
  replace H := H.below hb
  clear hb
  go_wp2_with fail
  replace H := H.box_11 (w2.heap.size) (.int .i64 1000000000000000) (.int .i64 9001) (.int .i64 0) (.int .i64 0) (.int .i64 738945) (.int .i64 739311) (.int .i64 3) (.bool false) (.bool false) (.bool false) (.int .i64 0) 23 rfl
  (with_reducible refine (check15 1000000000000000 9001 0 0 738945 739311 3 false false false 0 2 _ (H.factsT (by repeat (first | with_reducible exact List.mem_cons_self | with_reducible apply List.mem_cons_of_mem))) HC.out).mono ?_)
  rintro e w3 ⟨rfl, hb⟩
  replace H := H.below hb
  clear hb
  go_wp2_with fail
  go_ret
  exact ⟨rfl, H.old⟩

set_option maxHeartbeats 4000000 in
set_option maxRecDepth 100000 in
theorem teorder_3__t_ (x u : Int) (w : World) (hL : FactsT w) (hx : 0 ≤ x ∧ x < 256) (hq : x % 4 = 3) (hp : x % 2 = 1) (hu : 739311 + x = u) : Calls Tryz.prog 5 #[.agg #[.bool false, .bool false, .bool true, .bool false, .int .u8 x]] w fun e w' => e = .returned (.bool true) ∧ Below w.heap.size w w' := by
  have H := (Held.start w).add (f := factsTF) hL
  clear hL
  have HC : Hid ((Tm.mk 100000 500 0 0 u 739311 3 false false false 0).code = 4) := Lib.hid (ord_4 _ (by
    have bu : 739311 ≤ u ∧ u < 740000 := by omega
    clear hq hp hu
    unfold Tm.Form Tm.Days Mo; dsimp only; omega))
  go_enter Tryz.func5, Tryz.ntmps5
  go_wp2_with fail
  replace H := H.box_5 (w.heap.size) (.bool false) (.bool false) (.bool true) (.bool false) (.int .u8 x) 39 rfl
  (with_reducible refine (teshown_any _ (H.factsT (by repeat (first | with_reducible exact List.mem_cons_self | with_reducible apply List.mem_cons_of_mem)))).mono ?_)
  rintro e w1 ⟨rfl, hb⟩
  replace H := H.below hb
  clear hb
  go_wp2_with fail
  (with_reducible refine (good_is _).mono ?_)
  rintro e w2 ⟨rfl, hb⟩
  replace H := H.below hb
  clear hb
  go_wp2_with fail
  replace H := H.box_11 (w2.heap.size) (.int .i64 100000) (.int .i64 500) (.int .i64 0) (.int .i64 0) (.int .i64 u) (.int .i64 739311) (.int .i64 3) (.bool false) (.bool false) (.bool false) (.int .i64 0) 23 rfl
  (with_reducible refine (check15 100000 500 0 0 u 739311 3 false false false 0 4 _ (H.factsT (by repeat (first | with_reducible exact List.mem_cons_self | with_reducible apply List.mem_cons_of_mem))) HC.out).mono ?_)
  rintro e w3 ⟨rfl, hb⟩
  replace H := H.below hb
  clear hb
  go_wp2_with fail
  go_ret
  exact ⟨rfl, H.old⟩

set_option maxHeartbeats 4000000 in
set_option maxRecDepth 100000 in
theorem teorder_3__tb (x u : Int) (w : World) (hL : FactsT w) (hx : 0 ≤ x ∧ x < 256) (hq : x % 4 = 3) (hp : x % 2 = 1) (hu : 739311 + x = u) : Calls Tryz.prog 5 #[.agg #[.bool false, .bool false, .bool true, .bool true, .int .u8 x]] w fun e w' => e = .returned (.bool true) ∧ Below w.heap.size w w' := by
  have H := (Held.start w).add (f := factsTF) hL
  clear hL
  have HC : Hid ((Tm.mk 1000000000000000 9001 0 0 u 739311 3 false false false 0).code = 4) := Lib.hid (ord_4 _ (by
    have bu : 739311 ≤ u ∧ u < 740000 := by omega
    clear hq hp hu
    unfold Tm.Form Tm.Days Mo; dsimp only; omega))
  go_enter Tryz.func5, Tryz.ntmps5
  go_wp2_with fail
  replace H := H.box_5 (w.heap.size) (.bool false) (.bool false) (.bool true) (.bool true) (.int .u8 x) 39 rfl
  (with_reducible refine (teshown_any _ (H.factsT (by repeat (first | with_reducible exact List.mem_cons_self | with_reducible apply List.mem_cons_of_mem)))).mono ?_)
  rintro e w1 ⟨rfl, hb⟩
  replace H := H.below hb
  clear hb
  go_wp2_with fail
  (with_reducible refine (good_is _).mono ?_)
  rintro e w2 ⟨rfl, hb⟩
  replace H := H.below hb
  clear hb
  go_wp2_with fail
  replace H := H.box_11 (w2.heap.size) (.int .i64 1000000000000000) (.int .i64 9001) (.int .i64 0) (.int .i64 0) (.int .i64 u) (.int .i64 739311) (.int .i64 3) (.bool false) (.bool false) (.bool false) (.int .i64 0) 23 rfl
  (with_reducible refine (check15 1000000000000000 9001 0 0 u 739311 3 false false false 0 4 _ (H.factsT (by repeat (first | with_reducible exact List.mem_cons_self | with_reducible apply List.mem_cons_of_mem))) HC.out).mono ?_)
  rintro e w3 ⟨rfl, hb⟩
  replace H := H.below hb
  clear hb
  go_wp2_with fail
  go_ret
  exact ⟨rfl, H.old⟩

set_option maxHeartbeats 4000000 in
set_option maxRecDepth 100000 in
theorem teorder_3_n__ (x u : Int) (w : World) (hL : FactsT w) (hx : 0 ≤ x ∧ x < 256) (hq : x % 4 = 3) (hp : x % 2 = 1) (hu : 739311 + x = u) : Calls Tryz.prog 5 #[.agg #[.bool false, .bool true, .bool false, .bool false, .int .u8 x]] w fun e w' => e = .returned (.bool true) ∧ Below w.heap.size w w' := by
  have H := (Held.start w).add (f := factsTF) hL
  clear hL
  have HC : Hid ((Tm.mk 100000 500 0 0 3652060 0 3 false false false 0).code = 3) := Lib.hid (ord_3 _ (by
    have bu : 739311 ≤ u ∧ u < 740000 := by omega
    clear hq hp hu
    unfold Tm.Form Tm.Days Mo; dsimp only; omega))
  go_enter Tryz.func5, Tryz.ntmps5
  go_wp2_with fail
  replace H := H.box_5 (w.heap.size) (.bool false) (.bool true) (.bool false) (.bool false) (.int .u8 x) 39 rfl
  (with_reducible refine (teshown_any _ (H.factsT (by repeat (first | with_reducible exact List.mem_cons_self | with_reducible apply List.mem_cons_of_mem)))).mono ?_)
  rintro e w1 ⟨rfl, hb⟩
  replace H := H.below hb
  clear hb
  go_wp2_with fail
  (with_reducible refine (good_is _).mono ?_)
  rintro e w2 ⟨rfl, hb⟩
  replace H := H.below hb
  clear hb
  go_wp2_with fail
  replace H := H.box_11 (w2.heap.size) (.int .i64 100000) (.int .i64 500) (.int .i64 0) (.int .i64 0) (.int .i64 3652060) (.int .i64 0) (.int .i64 3) (.bool false) (.bool false) (.bool false) (.int .i64 0) 23 rfl
  (with_reducible refine (check15 100000 500 0 0 3652060 0 3 false false false 0 3 _ (H.factsT (by repeat (first | with_reducible exact List.mem_cons_self | with_reducible apply List.mem_cons_of_mem))) HC.out).mono ?_)
  rintro e w3 ⟨rfl, hb⟩
  replace H := H.below hb
  clear hb
  go_wp2_with fail
  go_ret
  exact ⟨rfl, H.old⟩

set_option maxHeartbeats 4000000 in
set_option maxRecDepth 100000 in
theorem teorder_3_n_b (x u : Int) (w : World) (hL : FactsT w) (hx : 0 ≤ x ∧ x < 256) (hq : x % 4 = 3) (hp : x % 2 = 1) (hu : 739311 + x = u) : Calls Tryz.prog 5 #[.agg #[.bool false, .bool true, .bool false, .bool true, .int .u8 x]] w fun e w' => e = .returned (.bool true) ∧ Below w.heap.size w w' := by
  have H := (Held.start w).add (f := factsTF) hL
  clear hL
  have HC : Hid ((Tm.mk 1000000000000000 9001 0 0 3652060 0 3 false false false 0).code = 3) := Lib.hid (ord_3 _ (by
    have bu : 739311 ≤ u ∧ u < 740000 := by omega
    clear hq hp hu
    unfold Tm.Form Tm.Days Mo; dsimp only; omega))
  go_enter Tryz.func5, Tryz.ntmps5
  go_wp2_with fail
  replace H := H.box_5 (w.heap.size) (.bool false) (.bool true) (.bool false) (.bool true) (.int .u8 x) 39 rfl
  (with_reducible refine (teshown_any _ (H.factsT (by repeat (first | with_reducible exact List.mem_cons_self | with_reducible apply List.mem_cons_of_mem)))).mono ?_)
  rintro e w1 ⟨rfl, hb⟩
  replace H := H.below hb
  clear hb
  go_wp2_with fail
  (with_reducible refine (good_is _).mono ?_)
  rintro e w2 ⟨rfl, hb⟩
  replace H := H.below hb
  clear hb
  go_wp2_with fail
  replace H := H.box_11 (w2.heap.size) (.int .i64 1000000000000000) (.int .i64 9001) (.int .i64 0) (.int .i64 0) (.int .i64 3652060) (.int .i64 0) (.int .i64 3) (.bool false) (.bool false) (.bool false) (.int .i64 0) 23 rfl
  (with_reducible refine (check15 1000000000000000 9001 0 0 3652060 0 3 false false false 0 3 _ (H.factsT (by repeat (first | with_reducible exact List.mem_cons_self | with_reducible apply List.mem_cons_of_mem))) HC.out).mono ?_)
  rintro e w3 ⟨rfl, hb⟩
  replace H := H.below hb
  clear hb
  go_wp2_with fail
  go_ret
  exact ⟨rfl, H.old⟩

set_option maxHeartbeats 4000000 in
set_option maxRecDepth 100000 in
theorem teorder_3_nt_ (x u : Int) (w : World) (hL : FactsT w) (hx : 0 ≤ x ∧ x < 256) (hq : x % 4 = 3) (hp : x % 2 = 1) (hu : 739311 + x = u) : Calls Tryz.prog 5 #[.agg #[.bool false, .bool true, .bool true, .bool false, .int .u8 x]] w fun e w' => e = .returned (.bool true) ∧ Below w.heap.size w w' := by
  have H := (Held.start w).add (f := factsTF) hL
  clear hL
  have HC : Hid ((Tm.mk 100000 500 0 0 3652060 0 3 false false false 0).code = 3) := Lib.hid (ord_3 _ (by
    have bu : 739311 ≤ u ∧ u < 740000 := by omega
    clear hq hp hu
    unfold Tm.Form Tm.Days Mo; dsimp only; omega))
  go_enter Tryz.func5, Tryz.ntmps5
  go_wp2_with fail
  replace H := H.box_5 (w.heap.size) (.bool false) (.bool true) (.bool true) (.bool false) (.int .u8 x) 39 rfl
  (with_reducible refine (teshown_any _ (H.factsT (by repeat (first | with_reducible exact List.mem_cons_self | with_reducible apply List.mem_cons_of_mem)))).mono ?_)
  rintro e w1 ⟨rfl, hb⟩
  replace H := H.below hb
  clear hb
  go_wp2_with fail
  (with_reducible refine (good_is _).mono ?_)
  rintro e w2 ⟨rfl, hb⟩
  replace H := H.below hb
  clear hb
  go_wp2_with fail
  replace H := H.box_11 (w2.heap.size) (.int .i64 100000) (.int .i64 500) (.int .i64 0) (.int .i64 0) (.int .i64 3652060) (.int .i64 0) (.int .i64 3) (.bool false) (.bool false) (.bool false) (.int .i64 0) 23 rfl
  (with_reducible refine (check15 100000 500 0 0 3652060 0 3 false false false 0 3 _ (H.factsT (by repeat (first | with_reducible exact List.mem_cons_self | with_reducible apply List.mem_cons_of_mem))) HC.out).mono ?_)
  rintro e w3 ⟨rfl, hb⟩
  replace H := H.below hb
  clear hb
  go_wp2_with fail
  go_ret
  exact ⟨rfl, H.old⟩

set_option maxHeartbeats 4000000 in
set_option maxRecDepth 100000 in
theorem teorder_3_ntb (x u : Int) (w : World) (hL : FactsT w) (hx : 0 ≤ x ∧ x < 256) (hq : x % 4 = 3) (hp : x % 2 = 1) (hu : 739311 + x = u) : Calls Tryz.prog 5 #[.agg #[.bool false, .bool true, .bool true, .bool true, .int .u8 x]] w fun e w' => e = .returned (.bool true) ∧ Below w.heap.size w w' := by
  have H := (Held.start w).add (f := factsTF) hL
  clear hL
  have HC : Hid ((Tm.mk 1000000000000000 9001 0 0 3652060 0 3 false false false 0).code = 3) := Lib.hid (ord_3 _ (by
    have bu : 739311 ≤ u ∧ u < 740000 := by omega
    clear hq hp hu
    unfold Tm.Form Tm.Days Mo; dsimp only; omega))
  go_enter Tryz.func5, Tryz.ntmps5
  go_wp2_with fail
  replace H := H.box_5 (w.heap.size) (.bool false) (.bool true) (.bool true) (.bool true) (.int .u8 x) 39 rfl
  (with_reducible refine (teshown_any _ (H.factsT (by repeat (first | with_reducible exact List.mem_cons_self | with_reducible apply List.mem_cons_of_mem)))).mono ?_)
  rintro e w1 ⟨rfl, hb⟩
  replace H := H.below hb
  clear hb
  go_wp2_with fail
  (with_reducible refine (good_is _).mono ?_)
  rintro e w2 ⟨rfl, hb⟩
  replace H := H.below hb
  clear hb
  go_wp2_with fail
  replace H := H.box_11 (w2.heap.size) (.int .i64 1000000000000000) (.int .i64 9001) (.int .i64 0) (.int .i64 0) (.int .i64 3652060) (.int .i64 0) (.int .i64 3) (.bool false) (.bool false) (.bool false) (.int .i64 0) 23 rfl
  (with_reducible refine (check15 1000000000000000 9001 0 0 3652060 0 3 false false false 0 3 _ (H.factsT (by repeat (first | with_reducible exact List.mem_cons_self | with_reducible apply List.mem_cons_of_mem))) HC.out).mono ?_)
  rintro e w3 ⟨rfl, hb⟩
  replace H := H.below hb
  clear hb
  go_wp2_with fail
  go_ret
  exact ⟨rfl, H.old⟩

set_option maxHeartbeats 4000000 in
set_option maxRecDepth 100000 in
theorem teorder_3f___ (x u : Int) (w : World) (hL : FactsT w) (hx : 0 ≤ x ∧ x < 256) (hq : x % 4 = 3) (hp : x % 2 = 1) (hu : 739311 + x = u) : Calls Tryz.prog 5 #[.agg #[.bool true, .bool false, .bool false, .bool false, .int .u8 x]] w fun e w' => e = .returned (.bool true) ∧ Below w.heap.size w w' := by
  have H := (Held.start w).add (f := factsTF) hL
  clear hL
  have HC : Hid ((Tm.mk 100000 500 0 0 738945 739311 0 false false false 0).code = 1) := Lib.hid (ord_1 _ (by
    have bu : 739311 ≤ u ∧ u < 740000 := by omega
    clear hq hp hu
    unfold Tm.Form Mo; dsimp only; omega))
  go_enter Tryz.func5, Tryz.ntmps5
  go_wp2_with fail
  replace H := H.box_5 (w.heap.size) (.bool true) (.bool false) (.bool false) (.bool false) (.int .u8 x) 39 rfl
  (with_reducible refine (teshown_any _ (H.factsT (by repeat (first | with_reducible exact List.mem_cons_self | with_reducible apply List.mem_cons_of_mem)))).mono ?_)
  rintro e w1 ⟨rfl, hb⟩
  replace H := H.below hb
  clear hb
  go_wp2_with fail
  (with_reducible refine (good_is _).mono ?_)
  rintro e w2 ⟨rfl, hb⟩
  replace H := H.below hb
  clear hb
  go_wp2_with fail
  replace H := H.box_11 (w2.heap.size) (.int .i64 100000) (.int .i64 500) (.int .i64 0) (.int .i64 0) (.int .i64 738945) (.int .i64 739311) (.int .i64 0) (.bool false) (.bool false) (.bool false) (.int .i64 0) 23 rfl
  (with_reducible refine (check15 100000 500 0 0 738945 739311 0 false false false 0 1 _ (H.factsT (by repeat (first | with_reducible exact List.mem_cons_self | with_reducible apply List.mem_cons_of_mem))) HC.out).mono ?_)
  rintro e w3 ⟨rfl, hb⟩
  replace H := H.below hb
  clear hb
  go_wp2_with fail
  go_ret
  exact ⟨rfl, H.old⟩

set_option maxHeartbeats 4000000 in
set_option maxRecDepth 100000 in
theorem teorder_3f__b (x u : Int) (w : World) (hL : FactsT w) (hx : 0 ≤ x ∧ x < 256) (hq : x % 4 = 3) (hp : x % 2 = 1) (hu : 739311 + x = u) : Calls Tryz.prog 5 #[.agg #[.bool true, .bool false, .bool false, .bool true, .int .u8 x]] w fun e w' => e = .returned (.bool true) ∧ Below w.heap.size w w' := by
  have H := (Held.start w).add (f := factsTF) hL
  clear hL
  have HC : Hid ((Tm.mk 1000000000000000 9001 0 0 738945 739311 0 false false false 0).code = 1) := Lib.hid (ord_1 _ (by
    have bu : 739311 ≤ u ∧ u < 740000 := by omega
    clear hq hp hu
    unfold Tm.Form Mo; dsimp only; omega))
  go_enter Tryz.func5, Tryz.ntmps5
  go_wp2_with fail
  replace H := H.box_5 (w.heap.size) (.bool true) (.bool false) (.bool false) (.bool true) (.int .u8 x) 39 rfl
  (with_reducible refine (teshown_any _ (H.factsT (by repeat (first | with_reducible exact List.mem_cons_self | with_reducible apply List.mem_cons_of_mem)))).mono ?_)
  rintro e w1 ⟨rfl, hb⟩
  replace H := H.below hb
  clear hb
  go_wp2_with fail
  (with_reducible refine (good_is _).mono ?_)
  rintro e w2 ⟨rfl, hb⟩
  replace H := H.below hb
  clear hb
  go_wp2_with fail
  replace H := H.box_11 (w2.heap.size) (.int .i64 1000000000000000) (.int .i64 9001) (.int .i64 0) (.int .i64 0) (.int .i64 738945) (.int .i64 739311) (.int .i64 0) (.bool false) (.bool false) (.bool false) (.int .i64 0) 23 rfl
  (with_reducible refine (check15 1000000000000000 9001 0 0 738945 739311 0 false false false 0 1 _ (H.factsT (by repeat (first | with_reducible exact List.mem_cons_self | with_reducible apply List.mem_cons_of_mem))) HC.out).mono ?_)
  rintro e w3 ⟨rfl, hb⟩
  replace H := H.below hb
  clear hb
  go_wp2_with fail
  go_ret
  exact ⟨rfl, H.old⟩

set_option maxHeartbeats 4000000 in
set_option maxRecDepth 100000 in
theorem teorder_3f_t_ (x u : Int) (w : World) (hL : FactsT w) (hx : 0 ≤ x ∧ x < 256) (hq : x % 4 = 3) (hp : x % 2 = 1) (hu : 739311 + x = u) : Calls Tryz.prog 5 #[.agg #[.bool true, .bool false, .bool true, .bool false, .int .u8 x]] w fun e w' => e = .returned (.bool true) ∧ Below w.heap.size w w' := by
  have H := (Held.start w).add (f := factsTF) hL
  clear hL
  have HC : Hid ((Tm.mk 100000 500 0 0 u 739311 0 false false false 0).code = 1) := Lib.hid (ord_1 _ (by
    have bu : 739311 ≤ u ∧ u < 740000 := by omega
    clear hq hp hu
    unfold Tm.Form Mo; dsimp only; omega))
  go_enter Tryz.func5, Tryz.ntmps5
  go_wp2_with fail
  replace H := H.box_5 (w.heap.size) (.bool true) (.bool false) (.bool true) (.bool false) (.int .u8 x) 39 rfl
  (with_reducible refine (teshown_any _ (H.factsT (by repeat (first | with_reducible exact List.mem_cons_self | with_reducible apply List.mem_cons_of_mem)))).mono ?_)
  rintro e w1 ⟨rfl, hb⟩
  replace H := H.below hb
  clear hb
  go_wp2_with fail
  (with_reducible refine (good_is _).mono ?_)
  rintro e w2 ⟨rfl, hb⟩
  replace H := H.below hb
  clear hb
  go_wp2_with fail
  replace H := H.box_11 (w2.heap.size) (.int .i64 100000) (.int .i64 500) (.int .i64 0) (.int .i64 0) (.int .i64 u) (.int .i64 739311) (.int .i64 0) (.bool false) (.bool false) (.bool false) (.int .i64 0) 23 rfl
  (with_reducible refine (check15 100000 500 0 0 u 739311 0 false false false 0 1 _ (H.factsT (by repeat (first | with_reducible exact List.mem_cons_self | with_reducible apply List.mem_cons_of_mem))) HC.out).mono ?_)
  rintro e w3 ⟨rfl, hb⟩
  replace H := H.below hb
  clear hb
  go_wp2_with fail
  go_ret
  exact ⟨rfl, H.old⟩

set_option maxHeartbeats 4000000 in
set_option maxRecDepth 100000 in
theorem teorder_3f_tb (x u : Int) (w : World) (hL : FactsT w) (hx : 0 ≤ x ∧ x < 256) (hq : x % 4 = 3) (hp : x % 2 = 1) (hu : 739311 + x = u) : Calls Tryz.prog 5 #[.agg #[.bool true, .bool false, .bool true, .bool true, .int .u8 x]] w fun e w' => e = .returned (.bool true) ∧ Below w.heap.size w w' := by
  have H := (Held.start w).add (f := factsTF) hL
  clear hL
  have HC : Hid ((Tm.mk 1000000000000000 9001 0 0 u 739311 0 false false false 0).code = 1) := Lib.hid (ord_1 _ (by
    have bu : 739311 ≤ u ∧ u < 740000 := by omega
    clear hq hp hu
    unfold Tm.Form Mo; dsimp only; omega))
  go_enter Tryz.func5, Tryz.ntmps5
  go_wp2_with fail
  replace H := H.box_5 (w.heap.size) (.bool true) (.bool false) (.bool true) (.bool true) (.int .u8 x) 39 rfl
  (with_reducible refine (teshown_any _ (H.factsT (by repeat (first | with_reducible exact List.mem_cons_self | with_reducible apply List.mem_cons_of_mem)))).mono ?_)
  rintro e w1 ⟨rfl, hb⟩
  replace H := H.below hb
  clear hb
  go_wp2_with fail
  (with_reducible refine (good_is _).mono ?_)
  rintro e w2 ⟨rfl, hb⟩
  replace H := H.below hb
  clear hb
  go_wp2_with fail
  replace H := H.box_11 (w2.heap.size) (.int .i64 1000000000000000) (.int .i64 9001) (.int .i64 0) (.int .i64 0) (.int .i64 u) (.int .i64 739311) (.int .i64 0) (.bool false) (.bool false) (.bool false) (.int .i64 0) 23 rfl
  (with_reducible refine (check15 1000000000000000 9001 0 0 u 739311 0 false false false 0 1 _ (H.factsT (by repeat (first | with_reducible exact List.mem_cons_self | with_reducible apply List.mem_cons_of_mem))) HC.out).mono ?_)
  rintro e w3 ⟨rfl, hb⟩
  replace H := H.below hb
  clear hb
  go_wp2_with fail
  go_ret
  exact ⟨rfl, H.old⟩

set_option maxHeartbeats 4000000 in
set_option maxRecDepth 100000 in
theorem teorder_3fn__ (x u : Int) (w : World) (hL : FactsT w) (hx : 0 ≤ x ∧ x < 256) (hq : x % 4 = 3) (hp : x % 2 = 1) (hu : 739311 + x = u) : Calls Tryz.prog 5 #[.agg #[.bool true, .bool true, .bool false, .bool false, .int .u8 x]] w fun e w' => e = .returned (.bool true) ∧ Below w.heap.size w w' := by
  have H := (Held.start w).add (f := factsTF) hL
  clear hL
  have HC : Hid ((Tm.mk 100000 500 0 0 3652060 0 0 false false false 0).code = 1) := Lib.hid (ord_1 _ (by
    have bu : 739311 ≤ u ∧ u < 740000 := by omega
    clear hq hp hu
    unfold Tm.Form Mo; dsimp only; omega))
  go_enter Tryz.func5, Tryz.ntmps5
  go_wp2_with fail
  replace H := H.box_5 (w.heap.size) (.bool true) (.bool true) (.bool false) (.bool false) (.int .u8 x) 39 rfl
  (with_reducible refine (teshown_any _ (H.factsT (by repeat (first | with_reducible exact List.mem_cons_self | with_reducible apply List.mem_cons_of_mem)))).mono ?_)
  rintro e w1 ⟨rfl, hb⟩
  replace H := H.below hb
  clear hb
  go_wp2_with fail
  (with_reducible refine (good_is _).mono ?_)
  rintro e w2 ⟨rfl, hb⟩
  replace H := H.below hb
  clear hb
  go_wp2_with fail
  replace H := H.box_11 (w2.heap.size) (.int .i64 100000) (.int .i64 500) (.int .i64 0) (.int .i64 0) (.int .i64 3652060) (.int .i64 0) (.int .i64 0) (.bool false) (.bool false) (.bool false) (.int .i64 0) 23 rfl
  (with_reducible refine (check15 100000 500 0 0 3652060 0 0 false false false 0 1 _ (H.factsT (by repeat (first | with_reducible exact List.mem_cons_self | with_reducible apply List.mem_cons_of_mem))) HC.out).mono ?_)
  rintro e w3 ⟨rfl, hb⟩
  replace H := H.below hb
  clear hb
  go_wp2_with fail
  go_ret
  exact ⟨rfl, H.old⟩

set_option maxHeartbeats 4000000 in
set_option maxRecDepth 100000 in
theorem teorder_3fn_b (x u : Int) (w : World) (hL : FactsT w) (hx : 0 ≤ x ∧ x < 256) (hq : x % 4 = 3) (hp : x % 2 = 1) (hu : 739311 + x = u) : Calls Tryz.prog 5 #[.agg #[.bool true, .bool true, .bool false, .bool true, .int .u8 x]] w fun e w' => e = .returned (.bool true) ∧ Below w.heap.size w w' := by
  have H := (Held.start w).add (f := factsTF) hL
  clear hL
  have HC : Hid ((Tm.mk 1000000000000000 9001 0 0 3652060 0 0 false false false 0).code = 1) := Lib.hid (ord_1 _ (by
    have bu : 739311 ≤ u ∧ u < 740000 := by omega
    clear hq hp hu
    unfold Tm.Form Mo; dsimp only; omega))
  go_enter Tryz.func5, Tryz.ntmps5
  go_wp2_with fail
  replace H := H.box_5 (w.heap.size) (.bool true) (.bool true) (.bool false) (.bool true) (.int .u8 x) 39 rfl
  (with_reducible refine (teshown_any _ (H.factsT (by repeat (first | with_reducible exact List.mem_cons_self | with_reducible apply List.mem_cons_of_mem)))).mono ?_)
  rintro e w1 ⟨rfl, hb⟩
  replace H := H.below hb
  clear hb
  go_wp2_with fail
  (with_reducible refine (good_is _).mono ?_)
  rintro e w2 ⟨rfl, hb⟩
  replace H := H.below hb
  clear hb
  go_wp2_with fail
  replace H := H.box_11 (w2.heap.size) (.int .i64 1000000000000000) (.int .i64 9001) (.int .i64 0) (.int .i64 0) (.int .i64 3652060) (.int .i64 0) (.int .i64 0) (.bool false) (.bool false) (.bool false) (.int .i64 0) 23 rfl
  (with_reducible refine (check15 1000000000000000 9001 0 0 3652060 0 0 false false false 0 1 _ (H.factsT (by repeat (first | with_reducible exact List.mem_cons_self | with_reducible apply List.mem_cons_of_mem))) HC.out).mono ?_)
  rintro e w3 ⟨rfl, hb⟩
  replace H := H.below hb
  clear hb
  go_wp2_with fail
  go_ret
  exact ⟨rfl, H.old⟩

set_option maxHeartbeats 4000000 in
set_option maxRecDepth 100000 in
theorem teorder_3fnt_ (x u : Int) (w : World) (hL : FactsT w) (hx : 0 ≤ x ∧ x < 256) (hq : x % 4 = 3) (hp : x % 2 = 1) (hu : 739311 + x = u) : Calls Tryz.prog 5 #[.agg #[.bool true, .bool true, .bool true, .bool false, .int .u8 x]] w fun e w' => e = .returned (.bool true) ∧ Below w.heap.size w w' := by
  have H := (Held.start w).add (f := factsTF) hL
  clear hL
  have HC : Hid ((Tm.mk 100000 500 0 0 3652060 0 0 false false false 0).code = 1) := Lib.hid (ord_1 _ (by
    have bu : 739311 ≤ u ∧ u < 740000 := by omega
    clear hq hp hu
    unfold Tm.Form Mo; dsimp only; omega))
  go_enter Tryz.func5, Tryz.ntmps5
  go_wp2_with fail
  replace H := H.box_5 (w.heap.size) (.bool true) (.bool true) (.bool true) (.bool false) (.int .u8 x) 39 rfl
  (with_reducible refine (teshown_any _ (H.factsT (by repeat (first | with_reducible exact List.mem_cons_self | with_reducible apply List.mem_cons_of_mem)))).mono ?_)
  rintro e w1 ⟨rfl, hb⟩
  replace H := H.below hb
  clear hb
  go_wp2_with fail
  (with_reducible refine (good_is _).mono ?_)
  rintro e w2 ⟨rfl, hb⟩
  replace H := H.below hb
  clear hb
  go_wp2_with fail
  replace H := H.box_11 (w2.heap.size) (.int .i64 100000) (.int .i64 500) (.int .i64 0) (.int .i64 0) (.int .i64 3652060) (.int .i64 0) (.int .i64 0) (.bool false) (.bool false) (.bool false) (.int .i64 0) 23 rfl
  (with_reducible refine (check15 100000 500 0 0 3652060 0 0 false false false 0 1 _ (H.factsT (by repeat (first | with_reducible exact List.mem_cons_self | with_reducible apply List.mem_cons_of_mem))) HC.out).mono ?_)
  rintro e w3 ⟨rfl, hb⟩
  replace H := H.below hb
  clear hb
  go_wp2_with fail
  go_ret
  exact ⟨rfl, H.old⟩

set_option maxHeartbeats 4000000 in
set_option maxRecDepth 100000 in
theorem teorder_3fntb (x u : Int) (w : World) (hL : FactsT w) (hx : 0 ≤ x ∧ x < 256) (hq : x % 4 = 3) (hp : x % 2 = 1) (hu : 739311 + x = u) : Calls Tryz.prog 5 #[.agg #[.bool true, .bool true, .bool true, .bool true, .int .u8 x]] w fun e w' => e = .returned (.bool true) ∧ Below w.heap.size w w' := by
  have H := (Held.start w).add (f := factsTF) hL
  clear hL
  have HC : Hid ((Tm.mk 1000000000000000 9001 0 0 3652060 0 0 false false false 0).code = 1) := Lib.hid (ord_1 _ (by
    have bu : 739311 ≤ u ∧ u < 740000 := by omega
    clear hq hp hu
    unfold Tm.Form Mo; dsimp only; omega))
  go_enter Tryz.func5, Tryz.ntmps5
  go_wp2_with fail
  replace H := H.box_5 (w.heap.size) (.bool true) (.bool true) (.bool true) (.bool true) (.int .u8 x) 39 rfl
  (with_reducible refine (teshown_any _ (H.factsT (by repeat (first | with_reducible exact List.mem_cons_self | with_reducible apply List.mem_cons_of_mem)))).mono ?_)
  rintro e w1 ⟨rfl, hb⟩
  replace H := H.below hb
  clear hb
  go_wp2_with fail
  (with_reducible refine (good_is _).mono ?_)
  rintro e w2 ⟨rfl, hb⟩
  replace H := H.below hb
  clear hb
  go_wp2_with fail
  replace H := H.box_11 (w2.heap.size) (.int .i64 1000000000000000) (.int .i64 9001) (.int .i64 0) (.int .i64 0) (.int .i64 3652060) (.int .i64 0) (.int .i64 0) (.bool false) (.bool false) (.bool false) (.int .i64 0) 23 rfl
  (with_reducible refine (check15 1000000000000000 9001 0 0 3652060 0 0 false false false 0 1 _ (H.factsT (by repeat (first | with_reducible exact List.mem_cons_self | with_reducible apply List.mem_cons_of_mem))) HC.out).mono ?_)
  rintro e w3 ⟨rfl, hb⟩
  replace H := H.below hb
  clear hb
  go_wp2_with fail
  go_ret
  exact ⟨rfl, H.old⟩
end Go.Proofs.YtmaioofcmgaakaaGreatDoor
