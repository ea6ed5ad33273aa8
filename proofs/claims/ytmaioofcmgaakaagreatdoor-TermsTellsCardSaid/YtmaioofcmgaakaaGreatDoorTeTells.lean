/- TermsTells: the walk. -/
import Derived.Test.YtmaioofcmgaakaaGreatDoorTeShown
import Derived.Test.YtmaioofcmgaakaaGreatDoorTeRefC
namespace Go.Proofs.YtmaioofcmgaakaaGreatDoor
open Go.RowKit
set_option linter.unusedVariables false
set_option linter.unusedSimpArgs false


set_option maxHeartbeats 4000000 in
set_option maxRecDepth 100000 in
theorem tetells_long (mo ra ki co st en ms : Int) (bk lg eo : Bool) (ro : Int) (n : Int) (s : ByteArray) (w : World) (hL : FactsT w) (hl : decide ((s.size : Int) > 40) = true) : Calls Tryz.prog 3 #[.agg #[.int .i64 mo, .int .i64 ra, .int .i64 ki, .int .i64 co, .int .i64 st, .int .i64 en, .int .i64 ms, .bool bk, .bool lg, .bool eo, .int .i64 ro], .int .i64 n, .string s] w fun e w' => e = .returned (.bool true) ∧ Below w.heap.size w w' := by
  have H := (Held.start w).add (f := factsTF) hL
  clear hL
  go_enter Tryz.func3, Tryz.ntmps3
  go_wp2_with fail
  replace H := H.box_11 (w.heap.size) (.int .i64 mo) (.int .i64 ra) (.int .i64 ki) (.int .i64 co) (.int .i64 st) (.int .i64 en) (.int .i64 ms) (.bool bk) (.bool lg) (.bool eo) (.int .i64 ro) 23 rfl
  (with_reducible refine (teshown_any _ (H.factsT (by repeat (first | with_reducible exact List.mem_cons_self | with_reducible apply List.mem_cons_of_mem)))).mono ?_)
  rintro e w1 ⟨rfl, hb⟩
  replace H := H.below hb
  clear hb
  have ct0 := H.cell (w.heap.size) 0 (.int .i64 mo) (by repeat (first | with_reducible exact List.mem_cons_self | with_reducible apply List.mem_cons_of_mem))
  have ct1 := H.cell (w.heap.size) 1 (.int .i64 ra) (by repeat (first | with_reducible exact List.mem_cons_self | with_reducible apply List.mem_cons_of_mem))
  have ct2 := H.cell (w.heap.size) 2 (.int .i64 ki) (by repeat (first | with_reducible exact List.mem_cons_self | with_reducible apply List.mem_cons_of_mem))
  have ct3 := H.cell (w.heap.size) 3 (.int .i64 co) (by repeat (first | with_reducible exact List.mem_cons_self | with_reducible apply List.mem_cons_of_mem))
  have ct4 := H.cell (w.heap.size) 4 (.int .i64 st) (by repeat (first | with_reducible exact List.mem_cons_self | with_reducible apply List.mem_cons_of_mem))
  have ct5 := H.cell (w.heap.size) 5 (.int .i64 en) (by repeat (first | with_reducible exact List.mem_cons_self | with_reducible apply List.mem_cons_of_mem))
  have ct6 := H.cell (w.heap.size) 6 (.int .i64 ms) (by repeat (first | with_reducible exact List.mem_cons_self | with_reducible apply List.mem_cons_of_mem))
  have ct7 := H.cell (w.heap.size) 7 (.bool bk) (by repeat (first | with_reducible exact List.mem_cons_self | with_reducible apply List.mem_cons_of_mem))
  have ct8 := H.cell (w.heap.size) 8 (.bool lg) (by repeat (first | with_reducible exact List.mem_cons_self | with_reducible apply List.mem_cons_of_mem))
  have ct9 := H.cell (w.heap.size) 9 (.bool eo) (by repeat (first | with_reducible exact List.mem_cons_self | with_reducible apply List.mem_cons_of_mem))
  have ct10 := H.cell (w.heap.size) 10 (.int .i64 ro) (by repeat (first | with_reducible exact List.mem_cons_self | with_reducible apply List.mem_cons_of_mem))
  have lt := cell_lt ct0
  go_wp2_with fail
  clear ct0 ct1 ct2 ct3 ct4 ct5 ct6 ct7 ct8 ct9 ct10 lt
  go_ret
  exact ⟨rfl, H.old⟩

set_option maxHeartbeats 4000000 in
set_option maxRecDepth 100000 in
theorem tetells_in (mo ra ki co st en ms : Int) (bk lg eo : Bool) (ro : Int) (n : Int) (s : ByteArray) (c k e f : Int) (S : ByteArray) (w : World) (hL : FactsT w) (hl : decide ((s.size : Int) > 40) = false) (h1 : (Tm.mk mo ra ki co st en ms bk lg eo ro).code = c) (h2 : tk s = (k, e)) (h3 : tn n = S) (h4 : fr n = f) : Calls Tryz.prog 3 #[.agg #[.int .i64 mo, .int .i64 ra, .int .i64 ki, .int .i64 co, .int .i64 st, .int .i64 en, .int .i64 ms, .bool bk, .bool lg, .bool eo, .int .i64 ro], .int .i64 n, .string s] w fun e w' => e = .returned (.bool true) ∧ Below w.heap.size w w' := by
  have H := (Held.start w).add (f := factsTF) hL
  clear hL
  replace h1 := Lib.hid h1
  replace h2 := Lib.hid h2
  replace h3 := Lib.hid h3
  replace h4 := Lib.hid h4
  go_enter Tryz.func3, Tryz.ntmps3
  go_wp2_with fail
  replace H := H.box_11 (w.heap.size) (.int .i64 mo) (.int .i64 ra) (.int .i64 ki) (.int .i64 co) (.int .i64 st) (.int .i64 en) (.int .i64 ms) (.bool bk) (.bool lg) (.bool eo) (.int .i64 ro) 23 rfl
  (with_reducible refine (teshown_any _ (H.factsT (by repeat (first | with_reducible exact List.mem_cons_self | with_reducible apply List.mem_cons_of_mem)))).mono ?_)
  rintro e w1 ⟨rfl, hb⟩
  replace H := H.below hb
  clear hb
  have ct0 := H.cell (w.heap.size) 0 (.int .i64 mo) (by repeat (first | with_reducible exact List.mem_cons_self | with_reducible apply List.mem_cons_of_mem))
  have ct1 := H.cell (w.heap.size) 1 (.int .i64 ra) (by repeat (first | with_reducible exact List.mem_cons_self | with_reducible apply List.mem_cons_of_mem))
  have ct2 := H.cell (w.heap.size) 2 (.int .i64 ki) (by repeat (first | with_reducible exact List.mem_cons_self | with_reducible apply List.mem_cons_of_mem))
  have ct3 := H.cell (w.heap.size) 3 (.int .i64 co) (by repeat (first | with_reducible exact List.mem_cons_self | with_reducible apply List.mem_cons_of_mem))
  have ct4 := H.cell (w.heap.size) 4 (.int .i64 st) (by repeat (first | with_reducible exact List.mem_cons_self | with_reducible apply List.mem_cons_of_mem))
  have ct5 := H.cell (w.heap.size) 5 (.int .i64 en) (by repeat (first | with_reducible exact List.mem_cons_self | with_reducible apply List.mem_cons_of_mem))
  have ct6 := H.cell (w.heap.size) 6 (.int .i64 ms) (by repeat (first | with_reducible exact List.mem_cons_self | with_reducible apply List.mem_cons_of_mem))
  have ct7 := H.cell (w.heap.size) 7 (.bool bk) (by repeat (first | with_reducible exact List.mem_cons_self | with_reducible apply List.mem_cons_of_mem))
  have ct8 := H.cell (w.heap.size) 8 (.bool lg) (by repeat (first | with_reducible exact List.mem_cons_self | with_reducible apply List.mem_cons_of_mem))
  have ct9 := H.cell (w.heap.size) 9 (.bool eo) (by repeat (first | with_reducible exact List.mem_cons_self | with_reducible apply List.mem_cons_of_mem))
  have ct10 := H.cell (w.heap.size) 10 (.int .i64 ro) (by repeat (first | with_reducible exact List.mem_cons_self | with_reducible apply List.mem_cons_of_mem))
  have lt := cell_lt ct0
  go_wp2_with fail
  clear ct0 ct1 ct2 ct3 ct4 ct5 ct6 ct7 ct8 ct9 ct10 lt
  (with_reducible refine (tkind15 s k e _ (H.factsT (by repeat (first | with_reducible exact List.mem_cons_self | with_reducible apply List.mem_cons_of_mem))) h2.out).mono ?_)
  rintro e w2 ⟨rfl, hb⟩
  replace H := H.below hb
  clear hb
  have ct0 := H.cell (w.heap.size) 0 (.int .i64 mo) (by repeat (first | with_reducible exact List.mem_cons_self | with_reducible apply List.mem_cons_of_mem))
  have ct1 := H.cell (w.heap.size) 1 (.int .i64 ra) (by repeat (first | with_reducible exact List.mem_cons_self | with_reducible apply List.mem_cons_of_mem))
  have ct2 := H.cell (w.heap.size) 2 (.int .i64 ki) (by repeat (first | with_reducible exact List.mem_cons_self | with_reducible apply List.mem_cons_of_mem))
  have ct3 := H.cell (w.heap.size) 3 (.int .i64 co) (by repeat (first | with_reducible exact List.mem_cons_self | with_reducible apply List.mem_cons_of_mem))
  have ct4 := H.cell (w.heap.size) 4 (.int .i64 st) (by repeat (first | with_reducible exact List.mem_cons_self | with_reducible apply List.mem_cons_of_mem))
  have ct5 := H.cell (w.heap.size) 5 (.int .i64 en) (by repeat (first | with_reducible exact List.mem_cons_self | with_reducible apply List.mem_cons_of_mem))
  have ct6 := H.cell (w.heap.size) 6 (.int .i64 ms) (by repeat (first | with_reducible exact List.mem_cons_self | with_reducible apply List.mem_cons_of_mem))
  have ct7 := H.cell (w.heap.size) 7 (.bool bk) (by repeat (first | with_reducible exact List.mem_cons_self | with_reducible apply List.mem_cons_of_mem))
  have ct8 := H.cell (w.heap.size) 8 (.bool lg) (by repeat (first | with_reducible exact List.mem_cons_self | with_reducible apply List.mem_cons_of_mem))
  have ct9 := H.cell (w.heap.size) 9 (.bool eo) (by repeat (first | with_reducible exact List.mem_cons_self | with_reducible apply List.mem_cons_of_mem))
  have ct10 := H.cell (w.heap.size) 10 (.int .i64 ro) (by repeat (first | with_reducible exact List.mem_cons_self | with_reducible apply List.mem_cons_of_mem))
  have lt := cell_lt ct0
  go_wp2_with fail
  clear ct0 ct1 ct2 ct3 ct4 ct5 ct6 ct7 ct8 ct9 ct10 lt
  (with_reducible refine (rkind15 s k e _ h2.out).mono ?_)
  rintro e w3 ⟨rfl, hb⟩
  replace H := H.below hb
  clear hb
  have ct0 := H.cell (w.heap.size) 0 (.int .i64 mo) (by repeat (first | with_reducible exact List.mem_cons_self | with_reducible apply List.mem_cons_of_mem))
  have ct1 := H.cell (w.heap.size) 1 (.int .i64 ra) (by repeat (first | with_reducible exact List.mem_cons_self | with_reducible apply List.mem_cons_of_mem))
  have ct2 := H.cell (w.heap.size) 2 (.int .i64 ki) (by repeat (first | with_reducible exact List.mem_cons_self | with_reducible apply List.mem_cons_of_mem))
  have ct3 := H.cell (w.heap.size) 3 (.int .i64 co) (by repeat (first | with_reducible exact List.mem_cons_self | with_reducible apply List.mem_cons_of_mem))
  have ct4 := H.cell (w.heap.size) 4 (.int .i64 st) (by repeat (first | with_reducible exact List.mem_cons_self | with_reducible apply List.mem_cons_of_mem))
  have ct5 := H.cell (w.heap.size) 5 (.int .i64 en) (by repeat (first | with_reducible exact List.mem_cons_self | with_reducible apply List.mem_cons_of_mem))
  have ct6 := H.cell (w.heap.size) 6 (.int .i64 ms) (by repeat (first | with_reducible exact List.mem_cons_self | with_reducible apply List.mem_cons_of_mem))
  have ct7 := H.cell (w.heap.size) 7 (.bool bk) (by repeat (first | with_reducible exact List.mem_cons_self | with_reducible apply List.mem_cons_of_mem))
  have ct8 := H.cell (w.heap.size) 8 (.bool lg) (by repeat (first | with_reducible exact List.mem_cons_self | with_reducible apply List.mem_cons_of_mem))
  have ct9 := H.cell (w.heap.size) 9 (.bool eo) (by repeat (first | with_reducible exact List.mem_cons_self | with_reducible apply List.mem_cons_of_mem))
  have ct10 := H.cell (w.heap.size) 10 (.int .i64 ro) (by repeat (first | with_reducible exact List.mem_cons_self | with_reducible apply List.mem_cons_of_mem))
  have lt := cell_lt ct0
  go_wp2_with fail
  clear ct0 ct1 ct2 ct3 ct4 ct5 ct6 ct7 ct8 ct9 ct10 lt
  replace H : Held w [factsTF, .cell (w.heap.size) 0 (.int .i64 mo), .cell (w.heap.size) 1 (.int .i64 ra), .cell (w.heap.size) 2 (.int .i64 ki), .cell (w.heap.size) 3 (.int .i64 co), .cell (w.heap.size) 4 (.int .i64 st), .cell (w.heap.size) 5 (.int .i64 en), .cell (w.heap.size) 6 (.int .i64 ms), .cell (w.heap.size) 7 (.bool bk), .cell (w.heap.size) 8 (.bool lg), .cell (w.heap.size) 9 (.bool eo), .cell (w.heap.size) 10 (.int .i64 ro)] _ := H.sub (by intro f hf; simp only [List.mem_cons, List.not_mem_nil, or_false] at hf; rcases hf with rfl | rfl | rfl | rfl | rfl | rfl | rfl | rfl | rfl | rfl | rfl | rfl <;> exact (by repeat (first | with_reducible exact List.mem_cons_self | with_reducible apply List.mem_cons_of_mem)))
  have KS : Hid (∀ w' : World, Held w [factsTF, .cell (w.heap.size) 0 (.int .i64 mo), .cell (w.heap.size) 1 (.int .i64 ra), .cell (w.heap.size) 2 (.int .i64 ki), .cell (w.heap.size) 3 (.int .i64 co), .cell (w.heap.size) 4 (.int .i64 st), .cell (w.heap.size) 5 (.int .i64 en), .cell (w.heap.size) 6 (.int .i64 ms), .cell (w.heap.size) 7 (.bool bk), .cell (w.heap.size) 8 (.bool lg), .cell (w.heap.size) 9 (.bool eo), .cell (w.heap.size) 10 (.int .i64 ro)] w' → w'.cell? ⟨w.heap.size, 0, none⟩ = some (.int .i64 mo) ∧ w'.cell? ⟨w.heap.size, 1, none⟩ = some (.int .i64 ra) ∧ w'.cell? ⟨w.heap.size, 2, none⟩ = some (.int .i64 ki) ∧ w'.cell? ⟨w.heap.size, 3, none⟩ = some (.int .i64 co) ∧ w'.cell? ⟨w.heap.size, 4, none⟩ = some (.int .i64 st) ∧ w'.cell? ⟨w.heap.size, 5, none⟩ = some (.int .i64 en) ∧ w'.cell? ⟨w.heap.size, 6, none⟩ = some (.int .i64 ms) ∧ w'.cell? ⟨w.heap.size, 7, none⟩ = some (.bool bk) ∧ w'.cell? ⟨w.heap.size, 8, none⟩ = some (.bool lg) ∧ w'.cell? ⟨w.heap.size, 9, none⟩ = some (.bool eo) ∧ w'.cell? ⟨w.heap.size, 10, none⟩ = some (.int .i64 ro) ∧ Held w [factsTF, .cell (w.heap.size) 0 (.int .i64 mo), .cell (w.heap.size) 1 (.int .i64 ra), .cell (w.heap.size) 2 (.int .i64 ki), .cell (w.heap.size) 3 (.int .i64 co), .cell (w.heap.size) 4 (.int .i64 st), .cell (w.heap.size) 5 (.int .i64 en), .cell (w.heap.size) 6 (.int .i64 ms), .cell (w.heap.size) 7 (.bool bk), .cell (w.heap.size) 8 (.bool lg), .cell (w.heap.size) 9 (.bool eo), .cell (w.heap.size) 10 (.int .i64 ro)] w') := Lib.hid (fun _ h => ⟨h.cell (w.heap.size) 0 (.int .i64 mo) (by repeat (first | with_reducible exact List.mem_cons_self | with_reducible apply List.mem_cons_of_mem)), h.cell (w.heap.size) 1 (.int .i64 ra) (by repeat (first | with_reducible exact List.mem_cons_self | with_reducible apply List.mem_cons_of_mem)), h.cell (w.heap.size) 2 (.int .i64 ki) (by repeat (first | with_reducible exact List.mem_cons_self | with_reducible apply List.mem_cons_of_mem)), h.cell (w.heap.size) 3 (.int .i64 co) (by repeat (first | with_reducible exact List.mem_cons_self | with_reducible apply List.mem_cons_of_mem)), h.cell (w.heap.size) 4 (.int .i64 st) (by repeat (first | with_reducible exact List.mem_cons_self | with_reducible apply List.mem_cons_of_mem)), h.cell (w.heap.size) 5 (.int .i64 en) (by repeat (first | with_reducible exact List.mem_cons_self | with_reducible apply List.mem_cons_of_mem)), h.cell (w.heap.size) 6 (.int .i64 ms) (by repeat (first | with_reducible exact List.mem_cons_self | with_reducible apply List.mem_cons_of_mem)), h.cell (w.heap.size) 7 (.bool bk) (by repeat (first | with_reducible exact List.mem_cons_self | with_reducible apply List.mem_cons_of_mem)), h.cell (w.heap.size) 8 (.bool lg) (by repeat (first | with_reducible exact List.mem_cons_self | with_reducible apply List.mem_cons_of_mem)), h.cell (w.heap.size) 9 (.bool eo) (by repeat (first | with_reducible exact List.mem_cons_self | with_reducible apply List.mem_cons_of_mem)), h.cell (w.heap.size) 10 (.int .i64 ro) (by repeat (first | with_reducible exact List.mem_cons_self | with_reducible apply List.mem_cons_of_mem)), h⟩)
  have KH : Hid (∀ w' : World, w'.cell? ⟨w.heap.size, 0, none⟩ = some (.int .i64 mo) ∧ w'.cell? ⟨w.heap.size, 1, none⟩ = some (.int .i64 ra) ∧ w'.cell? ⟨w.heap.size, 2, none⟩ = some (.int .i64 ki) ∧ w'.cell? ⟨w.heap.size, 3, none⟩ = some (.int .i64 co) ∧ w'.cell? ⟨w.heap.size, 4, none⟩ = some (.int .i64 st) ∧ w'.cell? ⟨w.heap.size, 5, none⟩ = some (.int .i64 en) ∧ w'.cell? ⟨w.heap.size, 6, none⟩ = some (.int .i64 ms) ∧ w'.cell? ⟨w.heap.size, 7, none⟩ = some (.bool bk) ∧ w'.cell? ⟨w.heap.size, 8, none⟩ = some (.bool lg) ∧ w'.cell? ⟨w.heap.size, 9, none⟩ = some (.bool eo) ∧ w'.cell? ⟨w.heap.size, 10, none⟩ = some (.int .i64 ro) ∧ Held w [factsTF, .cell (w.heap.size) 0 (.int .i64 mo), .cell (w.heap.size) 1 (.int .i64 ra), .cell (w.heap.size) 2 (.int .i64 ki), .cell (w.heap.size) 3 (.int .i64 co), .cell (w.heap.size) 4 (.int .i64 st), .cell (w.heap.size) 5 (.int .i64 en), .cell (w.heap.size) 6 (.int .i64 ms), .cell (w.heap.size) 7 (.bool bk), .cell (w.heap.size) 8 (.bool lg), .cell (w.heap.size) 9 (.bool eo), .cell (w.heap.size) 10 (.int .i64 ro)] w' → Held w [factsTF, .cell (w.heap.size) 0 (.int .i64 mo), .cell (w.heap.size) 1 (.int .i64 ra), .cell (w.heap.size) 2 (.int .i64 ki), .cell (w.heap.size) 3 (.int .i64 co), .cell (w.heap.size) 4 (.int .i64 st), .cell (w.heap.size) 5 (.int .i64 en), .cell (w.heap.size) 6 (.int .i64 ms), .cell (w.heap.size) 7 (.bool bk), .cell (w.heap.size) 8 (.bool lg), .cell (w.heap.size) 9 (.bool eo), .cell (w.heap.size) 10 (.int .i64 ro)] w') := Lib.hid (fun _ h => h.2.2.2.2.2.2.2.2.2.2.2)
  have KU : Hid (∀ w' : World, w'.cell? ⟨w.heap.size, 0, none⟩ = some (.int .i64 mo) ∧ w'.cell? ⟨w.heap.size, 1, none⟩ = some (.int .i64 ra) ∧ w'.cell? ⟨w.heap.size, 2, none⟩ = some (.int .i64 ki) ∧ w'.cell? ⟨w.heap.size, 3, none⟩ = some (.int .i64 co) ∧ w'.cell? ⟨w.heap.size, 4, none⟩ = some (.int .i64 st) ∧ w'.cell? ⟨w.heap.size, 5, none⟩ = some (.int .i64 en) ∧ w'.cell? ⟨w.heap.size, 6, none⟩ = some (.int .i64 ms) ∧ w'.cell? ⟨w.heap.size, 7, none⟩ = some (.bool bk) ∧ w'.cell? ⟨w.heap.size, 8, none⟩ = some (.bool lg) ∧ w'.cell? ⟨w.heap.size, 9, none⟩ = some (.bool eo) ∧ w'.cell? ⟨w.heap.size, 10, none⟩ = some (.int .i64 ro) ∧ Held w [factsTF, .cell (w.heap.size) 0 (.int .i64 mo), .cell (w.heap.size) 1 (.int .i64 ra), .cell (w.heap.size) 2 (.int .i64 ki), .cell (w.heap.size) 3 (.int .i64 co), .cell (w.heap.size) 4 (.int .i64 st), .cell (w.heap.size) 5 (.int .i64 en), .cell (w.heap.size) 6 (.int .i64 ms), .cell (w.heap.size) 7 (.bool bk), .cell (w.heap.size) 8 (.bool lg), .cell (w.heap.size) 9 (.bool eo), .cell (w.heap.size) 10 (.int .i64 ro)] w' → FactsT w') := Lib.hid (fun w' h => (KH.out w' h).factsT (by repeat (first | with_reducible exact List.mem_cons_self | with_reducible apply List.mem_cons_of_mem)))
  have HS := Lib.hid (KS.out _ H.drew)
  go_region_held3 (fun w' => w'.cell? ⟨w.heap.size, 0, none⟩ = some (.int .i64 mo) ∧ w'.cell? ⟨w.heap.size, 1, none⟩ = some (.int .i64 ra) ∧ w'.cell? ⟨w.heap.size, 2, none⟩ = some (.int .i64 ki) ∧ w'.cell? ⟨w.heap.size, 3, none⟩ = some (.int .i64 co) ∧ w'.cell? ⟨w.heap.size, 4, none⟩ = some (.int .i64 st) ∧ w'.cell? ⟨w.heap.size, 5, none⟩ = some (.int .i64 en) ∧ w'.cell? ⟨w.heap.size, 6, none⟩ = some (.int .i64 ms) ∧ w'.cell? ⟨w.heap.size, 7, none⟩ = some (.bool bk) ∧ w'.cell? ⟨w.heap.size, 8, none⟩ = some (.bool lg) ∧ w'.cell? ⟨w.heap.size, 9, none⟩ = some (.bool eo) ∧ w'.cell? ⟨w.heap.size, 10, none⟩ = some (.int .i64 ro) ∧ Held w [factsTF, .cell (w.heap.size) 0 (.int .i64 mo), .cell (w.heap.size) 1 (.int .i64 ra), .cell (w.heap.size) 2 (.int .i64 ki), .cell (w.heap.size) 3 (.int .i64 co), .cell (w.heap.size) 4 (.int .i64 st), .cell (w.heap.size) 5 (.int .i64 en), .cell (w.heap.size) 6 (.int .i64 ms), .cell (w.heap.size) 7 (.bool bk), .cell (w.heap.size) 8 (.bool lg), .cell (w.heap.size) 9 (.bool eo), .cell (w.heap.size) 10 (.int .i64 ro)] w')
    (first | exact HS.out | (refine KS.out _ (Held.below (KH.out _ ?_) hb); assumption) | (refine KS.out _ (Held.alloc (KH.out _ ?_) _); assumption) | assumption)
    (first
      | (go_at_call 11; (with_reducible refine (check15 mo ra ki co st en ms bk lg eo ro c _ (KU.out _ (by assumption)) h1.out).mono ?_); rintro e w' ⟨rfl, hb⟩)
      | (go_at_call 12; (with_reducible refine (rcheck15 mo ra ki co st en ms bk lg eo ro c _ h1.out).mono ?_); rintro e w' ⟨rfl, hb⟩)
      | (go_at_call 13; (with_reducible refine (tname15 n S _ (KU.out _ (by assumption)) h3.out).mono ?_); rintro e w' ⟨rfl, hb⟩)
      | (go_at_call 14; (with_reducible refine (rname15 n S _ h3.out).mono ?_); rintro e w' ⟨rfl, hb⟩)
      | (go_at_call 15; (with_reducible refine (tfreq15 n f _ h4.out).mono ?_); rintro e w' ⟨rfl, hb⟩)
      | (go_at_call 16; (with_reducible refine (rfreq15 n f _ h4.out).mono ?_); rintro e w' ⟨rfl, hb⟩))
  all_goals
    go_wp2
    go_ret
    exact ⟨rfl, (KH.out _ (by assumption)).old⟩

theorem tetells_walk (mo ra ki co st en ms : Int) (bk lg eo : Bool) (ro : Int) (n : Int) (s : ByteArray) (w : World) (hL : FactsT w) :
    Calls Tryz.prog 3 #[.agg #[.int .i64 mo, .int .i64 ra, .int .i64 ki, .int .i64 co, .int .i64 st, .int .i64 en, .int .i64 ms, .bool bk, .bool lg, .bool eo, .int .i64 ro], .int .i64 n, .string s] w fun e w' => e = .returned (.bool true) ∧ Below w.heap.size w w' := by
  by_cases hl : (s.size : Int) > 40
  · exact tetells_long mo ra ki co st en ms bk lg eo ro n s w hL (decide_eq_true hl)
  · exact tetells_in mo ra ki co st en ms bk lg eo ro n s _ (tk s).1 (tk s).2 _ _ w hL (decide_eq_false hl) rfl rfl rfl rfl
end Go.Proofs.YtmaioofcmgaakaaGreatDoor
