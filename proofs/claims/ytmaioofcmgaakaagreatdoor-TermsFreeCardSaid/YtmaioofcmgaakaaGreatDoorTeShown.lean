/- The document's example of layer 15. -/
import Derived.Test.YtmaioofcmgaakaaGreatDoorTeCheck
namespace Go.Proofs.YtmaioofcmgaakaaGreatDoor
open Go.RowKit
set_option linter.unusedVariables false
set_option linter.unusedSimpArgs false

theorem good_is (w : World) : Calls Tryz.prog 17 #[] w fun e w' => e = .returned (.agg #[.int .i64 100000, .int .i64 500, .int .i64 0, .int .i64 0, .int .i64 738945, .int .i64 739311, .int .i64 3, .bool false, .bool false, .bool false, .int .i64 0]) ∧ Below w.heap.size w w' := by
  have HK := Below.refl w.heap.size w
  go_enter Tryz.func17, Tryz.ntmps17
  go_wp2
  exact bodyPost_ret (v := .agg #[.int .i64 100000, .int .i64 500, .int .i64 0, .int .i64 0, .int .i64 738945, .int .i64 739311, .int .i64 3, .bool false, .bool false, .bool false, .int .i64 0]) (by simp [results, Tryz.results17, go_sem]) rfl ⟨rfl, by repeat (first | exact HK | refine Below.drew ?_ | refine Below.setCell ?_ (by simp <;> omega) _ | refine Below.alloc ?_ (by simp <;> omega) _)⟩

set_option maxHeartbeats 4000000 in
set_option maxRecDepth 100000 in
theorem teshown_any (w : World) (hL : FactsT w) : Calls Tryz.prog 8 #[] w fun e w' => e = .returned (.bool true) ∧ Below w.heap.size w w' := by
  have H := (Held.start w).add (f := factsTF) hL
  clear hL
  go_enter Tryz.func8, Tryz.ntmps8
  go_wp2_with fail
  (with_reducible refine (good_is _).mono ?_)
  rintro e w1 ⟨rfl, hb⟩
  replace H := H.below hb
  clear hb
  go_wp2_with fail
  replace H := H.box_11 (w1.heap.size) (.int .i64 100000) (.int .i64 500) (.int .i64 0) (.int .i64 0) (.int .i64 738945) (.int .i64 739311) (.int .i64 3) (.bool false) (.bool false) (.bool false) (.int .i64 0) 23 rfl
  (with_reducible refine (good_is _).mono ?_)
  rintro e w2 ⟨rfl, hb⟩
  replace H := H.below hb
  clear hb
  go_wp2_with fail
  replace H := H.box_11 (w2.heap.size) (.int .i64 100000) (.int .i64 500) (.int .i64 0) (.int .i64 0) (.int .i64 738945) (.int .i64 739311) (.int .i64 5) (.bool false) (.bool false) (.bool false) (.int .i64 0) 23 rfl
  (with_reducible refine (good_is _).mono ?_)
  rintro e w3 ⟨rfl, hb⟩
  replace H := H.below hb
  clear hb
  go_wp2_with fail
  replace H := H.box_11 (w3.heap.size) (.int .i64 100000) (.int .i64 500) (.int .i64 0) (.int .i64 0) (.int .i64 738945) (.int .i64 738945) (.int .i64 3) (.bool false) (.bool false) (.bool false) (.int .i64 0) 23 rfl
  (with_reducible refine (good_is _).mono ?_)
  rintro e w4 ⟨rfl, hb⟩
  replace H := H.below hb
  clear hb
  go_wp2_with fail
  replace H := H.box_11 (w4.heap.size) (.int .i64 1000000000000001) (.int .i64 500) (.int .i64 0) (.int .i64 0) (.int .i64 738945) (.int .i64 739311) (.int .i64 3) (.bool false) (.bool false) (.bool false) (.int .i64 0) 23 rfl
  (with_reducible refine (good_is _).mono ?_)
  rintro e w5 ⟨rfl, hb⟩
  replace H := H.below hb
  clear hb
  go_wp2_with fail
  replace H := H.box_11 (w5.heap.size) (.int .i64 100000) (.int .i64 500) (.int .i64 0) (.int .i64 0) (.int .i64 0) (.int .i64 739311) (.int .i64 3) (.bool false) (.bool false) (.bool false) (.int .i64 0) 23 rfl
  (with_reducible refine (tkind15 ⟨#[101, 113, 117, 97, 108]⟩ 1 0 _ (H.factsT (by repeat (first | with_reducible exact List.mem_cons_self | with_reducible apply List.mem_cons_of_mem))) (by decide +kernel)).mono ?_)
  rintro e w6 ⟨rfl, hb⟩
  replace H := H.below hb
  clear hb
  go_wp2_with fail
  (with_reducible refine (tkind15 ⟨#[]⟩ 0 10 _ (H.factsT (by repeat (first | with_reducible exact List.mem_cons_self | with_reducible apply List.mem_cons_of_mem))) (by decide +kernel)).mono ?_)
  rintro e w7 ⟨rfl, hb⟩
  replace H := H.below hb
  clear hb
  have ca0 := H.cell (w1.heap.size) 0 (.int .i64 100000) (by repeat (first | with_reducible exact List.mem_cons_self | with_reducible apply List.mem_cons_of_mem))
  have ca1 := H.cell (w1.heap.size) 1 (.int .i64 500) (by repeat (first | with_reducible exact List.mem_cons_self | with_reducible apply List.mem_cons_of_mem))
  have ca2 := H.cell (w1.heap.size) 2 (.int .i64 0) (by repeat (first | with_reducible exact List.mem_cons_self | with_reducible apply List.mem_cons_of_mem))
  have ca3 := H.cell (w1.heap.size) 3 (.int .i64 0) (by repeat (first | with_reducible exact List.mem_cons_self | with_reducible apply List.mem_cons_of_mem))
  have ca4 := H.cell (w1.heap.size) 4 (.int .i64 738945) (by repeat (first | with_reducible exact List.mem_cons_self | with_reducible apply List.mem_cons_of_mem))
  have ca5 := H.cell (w1.heap.size) 5 (.int .i64 739311) (by repeat (first | with_reducible exact List.mem_cons_self | with_reducible apply List.mem_cons_of_mem))
  have ca6 := H.cell (w1.heap.size) 6 (.int .i64 3) (by repeat (first | with_reducible exact List.mem_cons_self | with_reducible apply List.mem_cons_of_mem))
  have ca7 := H.cell (w1.heap.size) 7 (.bool false) (by repeat (first | with_reducible exact List.mem_cons_self | with_reducible apply List.mem_cons_of_mem))
  have ca8 := H.cell (w1.heap.size) 8 (.bool false) (by repeat (first | with_reducible exact List.mem_cons_self | with_reducible apply List.mem_cons_of_mem))
  have ca9 := H.cell (w1.heap.size) 9 (.bool false) (by repeat (first | with_reducible exact List.mem_cons_self | with_reducible apply List.mem_cons_of_mem))
  have ca10 := H.cell (w1.heap.size) 10 (.int .i64 0) (by repeat (first | with_reducible exact List.mem_cons_self | with_reducible apply List.mem_cons_of_mem))
  have la := cell_lt ca0
  go_wp2_with fail
  clear ca0 ca1 ca2 ca3 ca4 ca5 ca6 ca7 ca8 ca9 ca10 la
  (with_reducible refine (check15 100000 500 0 0 738945 739311 3 false false false 0 0 _ (H.factsT (by repeat (first | with_reducible exact List.mem_cons_self | with_reducible apply List.mem_cons_of_mem))) (by decide +kernel)).mono ?_)
  rintro e w8 ⟨rfl, hb⟩
  replace H := H.below hb
  clear hb
  have cb0 := H.cell (w2.heap.size) 0 (.int .i64 100000) (by repeat (first | with_reducible exact List.mem_cons_self | with_reducible apply List.mem_cons_of_mem))
  have cb1 := H.cell (w2.heap.size) 1 (.int .i64 500) (by repeat (first | with_reducible exact List.mem_cons_self | with_reducible apply List.mem_cons_of_mem))
  have cb2 := H.cell (w2.heap.size) 2 (.int .i64 0) (by repeat (first | with_reducible exact List.mem_cons_self | with_reducible apply List.mem_cons_of_mem))
  have cb3 := H.cell (w2.heap.size) 3 (.int .i64 0) (by repeat (first | with_reducible exact List.mem_cons_self | with_reducible apply List.mem_cons_of_mem))
  have cb4 := H.cell (w2.heap.size) 4 (.int .i64 738945) (by repeat (first | with_reducible exact List.mem_cons_self | with_reducible apply List.mem_cons_of_mem))
  have cb5 := H.cell (w2.heap.size) 5 (.int .i64 739311) (by repeat (first | with_reducible exact List.mem_cons_self | with_reducible apply List.mem_cons_of_mem))
  have cb6 := H.cell (w2.heap.size) 6 (.int .i64 5) (by repeat (first | with_reducible exact List.mem_cons_self | with_reducible apply List.mem_cons_of_mem))
  have cb7 := H.cell (w2.heap.size) 7 (.bool false) (by repeat (first | with_reducible exact List.mem_cons_self | with_reducible apply List.mem_cons_of_mem))
  have cb8 := H.cell (w2.heap.size) 8 (.bool false) (by repeat (first | with_reducible exact List.mem_cons_self | with_reducible apply List.mem_cons_of_mem))
  have cb9 := H.cell (w2.heap.size) 9 (.bool false) (by repeat (first | with_reducible exact List.mem_cons_self | with_reducible apply List.mem_cons_of_mem))
  have cb10 := H.cell (w2.heap.size) 10 (.int .i64 0) (by repeat (first | with_reducible exact List.mem_cons_self | with_reducible apply List.mem_cons_of_mem))
  have lb := cell_lt cb0
  go_wp2_with fail
  clear cb0 cb1 cb2 cb3 cb4 cb5 cb6 cb7 cb8 cb9 cb10 lb
  (with_reducible refine (check15 100000 500 0 0 738945 739311 5 false false false 0 1 _ (H.factsT (by repeat (first | with_reducible exact List.mem_cons_self | with_reducible apply List.mem_cons_of_mem))) (by decide +kernel)).mono ?_)
  rintro e w9 ⟨rfl, hb⟩
  replace H := H.below hb
  clear hb
  have cc0 := H.cell (w3.heap.size) 0 (.int .i64 100000) (by repeat (first | with_reducible exact List.mem_cons_self | with_reducible apply List.mem_cons_of_mem))
  have cc1 := H.cell (w3.heap.size) 1 (.int .i64 500) (by repeat (first | with_reducible exact List.mem_cons_self | with_reducible apply List.mem_cons_of_mem))
  have cc2 := H.cell (w3.heap.size) 2 (.int .i64 0) (by repeat (first | with_reducible exact List.mem_cons_self | with_reducible apply List.mem_cons_of_mem))
  have cc3 := H.cell (w3.heap.size) 3 (.int .i64 0) (by repeat (first | with_reducible exact List.mem_cons_self | with_reducible apply List.mem_cons_of_mem))
  have cc4 := H.cell (w3.heap.size) 4 (.int .i64 738945) (by repeat (first | with_reducible exact List.mem_cons_self | with_reducible apply List.mem_cons_of_mem))
  have cc5 := H.cell (w3.heap.size) 5 (.int .i64 738945) (by repeat (first | with_reducible exact List.mem_cons_self | with_reducible apply List.mem_cons_of_mem))
  have cc6 := H.cell (w3.heap.size) 6 (.int .i64 3) (by repeat (first | with_reducible exact List.mem_cons_self | with_reducible apply List.mem_cons_of_mem))
  have cc7 := H.cell (w3.heap.size) 7 (.bool false) (by repeat (first | with_reducible exact List.mem_cons_self | with_reducible apply List.mem_cons_of_mem))
  have cc8 := H.cell (w3.heap.size) 8 (.bool false) (by repeat (first | with_reducible exact List.mem_cons_self | with_reducible apply List.mem_cons_of_mem))
  have cc9 := H.cell (w3.heap.size) 9 (.bool false) (by repeat (first | with_reducible exact List.mem_cons_self | with_reducible apply List.mem_cons_of_mem))
  have cc10 := H.cell (w3.heap.size) 10 (.int .i64 0) (by repeat (first | with_reducible exact List.mem_cons_self | with_reducible apply List.mem_cons_of_mem))
  have lc := cell_lt cc0
  go_wp2_with fail
  clear cc0 cc1 cc2 cc3 cc4 cc5 cc6 cc7 cc8 cc9 cc10 lc
  (with_reducible refine (check15 100000 500 0 0 738945 738945 3 false false false 0 4 _ (H.factsT (by repeat (first | with_reducible exact List.mem_cons_self | with_reducible apply List.mem_cons_of_mem))) (by decide +kernel)).mono ?_)
  rintro e w10 ⟨rfl, hb⟩
  replace H := H.below hb
  clear hb
  have cd0 := H.cell (w4.heap.size) 0 (.int .i64 1000000000000001) (by repeat (first | with_reducible exact List.mem_cons_self | with_reducible apply List.mem_cons_of_mem))
  have cd1 := H.cell (w4.heap.size) 1 (.int .i64 500) (by repeat (first | with_reducible exact List.mem_cons_self | with_reducible apply List.mem_cons_of_mem))
  have cd2 := H.cell (w4.heap.size) 2 (.int .i64 0) (by repeat (first | with_reducible exact List.mem_cons_self | with_reducible apply List.mem_cons_of_mem))
  have cd3 := H.cell (w4.heap.size) 3 (.int .i64 0) (by repeat (first | with_reducible exact List.mem_cons_self | with_reducible apply List.mem_cons_of_mem))
  have cd4 := H.cell (w4.heap.size) 4 (.int .i64 738945) (by repeat (first | with_reducible exact List.mem_cons_self | with_reducible apply List.mem_cons_of_mem))
  have cd5 := H.cell (w4.heap.size) 5 (.int .i64 739311) (by repeat (first | with_reducible exact List.mem_cons_self | with_reducible apply List.mem_cons_of_mem))
  have cd6 := H.cell (w4.heap.size) 6 (.int .i64 3) (by repeat (first | with_reducible exact List.mem_cons_self | with_reducible apply List.mem_cons_of_mem))
  have cd7 := H.cell (w4.heap.size) 7 (.bool false) (by repeat (first | with_reducible exact List.mem_cons_self | with_reducible apply List.mem_cons_of_mem))
  have cd8 := H.cell (w4.heap.size) 8 (.bool false) (by repeat (first | with_reducible exact List.mem_cons_self | with_reducible apply List.mem_cons_of_mem))
  have cd9 := H.cell (w4.heap.size) 9 (.bool false) (by repeat (first | with_reducible exact List.mem_cons_self | with_reducible apply List.mem_cons_of_mem))
  have cd10 := H.cell (w4.heap.size) 10 (.int .i64 0) (by repeat (first | with_reducible exact List.mem_cons_self | with_reducible apply List.mem_cons_of_mem))
  have ld := cell_lt cd0
  go_wp2_with fail
  clear cd0 cd1 cd2 cd3 cd4 cd5 cd6 cd7 cd8 cd9 cd10 ld
  (with_reducible refine (check15 1000000000000001 500 0 0 738945 739311 3 false false false 0 2 _ (H.factsT (by repeat (first | with_reducible exact List.mem_cons_self | with_reducible apply List.mem_cons_of_mem))) (by decide +kernel)).mono ?_)
  rintro e w11 ⟨rfl, hb⟩
  replace H := H.below hb
  clear hb
  have ce0 := H.cell (w5.heap.size) 0 (.int .i64 100000) (by repeat (first | with_reducible exact List.mem_cons_self | with_reducible apply List.mem_cons_of_mem))
  have ce1 := H.cell (w5.heap.size) 1 (.int .i64 500) (by repeat (first | with_reducible exact List.mem_cons_self | with_reducible apply List.mem_cons_of_mem))
  have ce2 := H.cell (w5.heap.size) 2 (.int .i64 0) (by repeat (first | with_reducible exact List.mem_cons_self | with_reducible apply List.mem_cons_of_mem))
  have ce3 := H.cell (w5.heap.size) 3 (.int .i64 0) (by repeat (first | with_reducible exact List.mem_cons_self | with_reducible apply List.mem_cons_of_mem))
  have ce4 := H.cell (w5.heap.size) 4 (.int .i64 0) (by repeat (first | with_reducible exact List.mem_cons_self | with_reducible apply List.mem_cons_of_mem))
  have ce5 := H.cell (w5.heap.size) 5 (.int .i64 739311) (by repeat (first | with_reducible exact List.mem_cons_self | with_reducible apply List.mem_cons_of_mem))
  have ce6 := H.cell (w5.heap.size) 6 (.int .i64 3) (by repeat (first | with_reducible exact List.mem_cons_self | with_reducible apply List.mem_cons_of_mem))
  have ce7 := H.cell (w5.heap.size) 7 (.bool false) (by repeat (first | with_reducible exact List.mem_cons_self | with_reducible apply List.mem_cons_of_mem))
  have ce8 := H.cell (w5.heap.size) 8 (.bool false) (by repeat (first | with_reducible exact List.mem_cons_self | with_reducible apply List.mem_cons_of_mem))
  have ce9 := H.cell (w5.heap.size) 9 (.bool false) (by repeat (first | with_reducible exact List.mem_cons_self | with_reducible apply List.mem_cons_of_mem))
  have ce10 := H.cell (w5.heap.size) 10 (.int .i64 0) (by repeat (first | with_reducible exact List.mem_cons_self | with_reducible apply List.mem_cons_of_mem))
  have le := cell_lt ce0
  go_wp2_with fail
  clear ce0 ce1 ce2 ce3 ce4 ce5 ce6 ce7 ce8 ce9 ce10 le
  (with_reducible refine (check15 100000 500 0 0 0 739311 3 false false false 0 3 _ (H.factsT (by repeat (first | with_reducible exact List.mem_cons_self | with_reducible apply List.mem_cons_of_mem))) (by decide +kernel)).mono ?_)
  rintro e w12 ⟨rfl, hb⟩
  replace H := H.below hb
  clear hb
  go_wp2_with fail
  (with_reducible refine (tname15 2 ⟨#[108, 101, 118, 101, 108]⟩ _ (H.factsT (by repeat (first | with_reducible exact List.mem_cons_self | with_reducible apply List.mem_cons_of_mem))) tn_2).mono ?_)
  rintro e w13 ⟨rfl, hb⟩
  replace H := H.below hb
  clear hb
  go_wp2_with fail
  (with_reducible refine (tname15 3 ⟨#[]⟩ _ (H.factsT (by repeat (first | with_reducible exact List.mem_cons_self | with_reducible apply List.mem_cons_of_mem))) (tn_out 3 (by omega))).mono ?_)
  rintro e w14 ⟨rfl, hb⟩
  replace H := H.below hb
  clear hb
  go_wp2_with fail
  (with_reducible refine (tfreq15 4 3 _ (by decide +kernel)).mono ?_)
  rintro e w15 ⟨rfl, hb⟩
  replace H := H.below hb
  clear hb
  go_wp2_with fail
  (with_reducible refine (tfreq15 5 0 _ (by decide +kernel)).mono ?_)
  rintro e w16 ⟨rfl, hb⟩
  replace H := H.below hb
  clear hb
  go_wp2_with fail
  go_ret
  exact ⟨rfl, H.old⟩
end Go.Proofs.YtmaioofcmgaakaaGreatDoor
