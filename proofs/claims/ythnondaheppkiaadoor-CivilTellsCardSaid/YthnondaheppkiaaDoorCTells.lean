/- CivilTells: the walk. -/
import Derived.Test.YthnondaheppkiaaDoorCShown
namespace Go.Proofs.YthnondaheppkiaaDoor
open Go.RowKit
set_option linter.unusedVariables false

set_option maxHeartbeats 4000000 in
set_option maxRecDepth 100000 in
theorem ctells_walk (y m d n : Int) (w : World) (hL : Lens w) (hy : -9223372036854775808 ≤ y ∧ y < 9223372036854775808) (hm : -9223372036854775808 ≤ m ∧ m < 9223372036854775808) (hd : -9223372036854775808 ≤ d ∧ d < 9223372036854775808) (hn : -9223372036854775808 ≤ n ∧ n < 9223372036854775808) :
    Calls Tryd.prog 3 #[.agg #[.int .i64 y, .int .i64 m, .int .i64 d], .int .i64 n] w fun e w' => e = .returned (.bool true) ∧ Below w.heap.size w w' := by
  have H := (Held.start w).add (f := lensF) hL
  clear hL hy hm hd hn
  obtain ⟨Y, M, D, E, hday⟩ := day_is n
  have HD := Lib.hid hday
  clear hday
  obtain ⟨N, HN⟩ : ∃ k, Hid (nN y m d = k) := ⟨_, Lib.hid rfl⟩
  obtain ⟨F, HF⟩ : ∃ k, Hid (nE y m d = k) := ⟨_, Lib.hid rfl⟩
  obtain ⟨b, HB⟩ : ∃ k, Hid (lp y = k) := ⟨_, Lib.hid rfl⟩
  obtain ⟨l, HW⟩ : ∃ k, Hid (ln y m = k) := ⟨_, Lib.hid rfl⟩
  obtain ⟨c, HM⟩ : ∃ k, Hid (mb y m d = k) := ⟨_, Lib.hid rfl⟩
  obtain ⟨k, HK⟩ : ∃ k, Hid (wk n = k) := ⟨_, Lib.hid rfl⟩
  go_enter Tryd.func3, Tryd.ntmps3
  go_wp2_with fail
  replace H := (H.triple (w.heap.size) (.int .i64 y) (.int .i64 m) (.int .i64 d) 23 rfl)
  (with_reducible refine (cshown_any _ (H.lens (List.Mem.tail _ (List.Mem.tail _ (List.Mem.tail _ (List.Mem.tail _ (List.Mem.tail _ (List.Mem.tail _ (List.Mem.head _))))))))).mono ?_)
  rintro e w1 ⟨rfl, hb⟩
  replace H := H.below hb
  clear hb
  have cc0 := H.cell (w.heap.size) 0 (.int .i64 y) (List.Mem.head _)
  have cc1 := H.cell (w.heap.size) 1 (.int .i64 m) (List.Mem.tail _ (List.Mem.head _))
  have cc2 := H.cell (w.heap.size) 2 (.int .i64 d) (List.Mem.tail _ (List.Mem.tail _ (List.Mem.head _)))
  have lc := H.lt (w.heap.size) 0 (.int .i64 y) (List.Mem.head _)
  go_wp2_with fail
  clear cc0 cc1 cc2 lc
  (with_reducible refine (number_is y m d N F _ (H.lens (List.Mem.tail _ (List.Mem.tail _ (List.Mem.tail _ (List.Mem.tail _ (List.Mem.tail _ (List.Mem.tail _ (List.Mem.head _)))))))) ⟨HN.out, HF.out⟩).mono ?_)
  rintro e w2 ⟨rfl, hb⟩
  replace H := H.below hb
  clear hb
  have cc0 := H.cell (w.heap.size) 0 (.int .i64 y) (List.Mem.head _)
  have cc1 := H.cell (w.heap.size) 1 (.int .i64 m) (List.Mem.tail _ (List.Mem.head _))
  have cc2 := H.cell (w.heap.size) 2 (.int .i64 d) (List.Mem.tail _ (List.Mem.tail _ (List.Mem.head _)))
  have lc := H.lt (w.heap.size) 0 (.int .i64 y) (List.Mem.head _)
  go_wp2_with fail
  clear cc0 cc1 cc2 lc
  (with_reducible refine (rnumber_is y m d N F _ ⟨HN.out, HF.out⟩).mono ?_)
  rintro e w3 ⟨rfl, hb⟩
  replace H := H.below hb
  clear hb
  go_wp2_with fail
  (with_reducible refine (of_any n Y M D E _ (H.lens (List.Mem.tail _ (List.Mem.tail _ (List.Mem.tail _ (List.Mem.tail _ (List.Mem.tail _ (List.Mem.tail _ (List.Mem.head _)))))))) HD.out).mono ?_)
  rintro e w4 ⟨rfl, hb⟩
  replace H := H.below hb
  clear hb
  go_wp2_with fail
  replace H := (H.triple (w4.heap.size) (.int .i64 Y) (.int .i64 M) (.int .i64 D) 23 rfl)
  (with_reducible refine (rof_any n Y M D E _ HD.out).mono ?_)
  rintro e w5 ⟨rfl, hb⟩
  replace H := H.below hb
  clear hb
  have cc0 := H.cell (w.heap.size) 0 (.int .i64 y) (List.Mem.tail _ (List.Mem.tail _ (List.Mem.tail _ (List.Mem.tail _ (List.Mem.tail _ (List.Mem.tail _ (List.Mem.head _)))))))
  have cc1 := H.cell (w.heap.size) 1 (.int .i64 m) (List.Mem.tail _ (List.Mem.tail _ (List.Mem.tail _ (List.Mem.tail _ (List.Mem.tail _ (List.Mem.tail _ (List.Mem.tail _ (List.Mem.head _))))))))
  have cc2 := H.cell (w.heap.size) 2 (.int .i64 d) (List.Mem.tail _ (List.Mem.tail _ (List.Mem.tail _ (List.Mem.tail _ (List.Mem.tail _ (List.Mem.tail _ (List.Mem.tail _ (List.Mem.tail _ (List.Mem.head _)))))))))
  have lc := H.lt (w.heap.size) 0 (.int .i64 y) (List.Mem.tail _ (List.Mem.tail _ (List.Mem.tail _ (List.Mem.tail _ (List.Mem.tail _ (List.Mem.tail _ (List.Mem.head _)))))))
  have ca0 := H.cell (w4.heap.size) 0 (.int .i64 Y) (List.Mem.head _)
  have ca1 := H.cell (w4.heap.size) 1 (.int .i64 M) (List.Mem.tail _ (List.Mem.head _))
  have ca2 := H.cell (w4.heap.size) 2 (.int .i64 D) (List.Mem.tail _ (List.Mem.tail _ (List.Mem.head _)))
  have la := H.lt (w4.heap.size) 0 (.int .i64 Y) (List.Mem.head _)
  go_wp2_with fail
  clear cc0 cc1 cc2 lc ca0 ca1 ca2 la
  replace H := (H.triple (w5.heap.size) (.int .i64 Y) (.int .i64 M) (.int .i64 D) 23 rfl)
  have KS : Hid (∀ w' : World, Held w [.cell (w5.heap.size) 0 (.int .i64 Y), .cell (w5.heap.size) 1 (.int .i64 M), .cell (w5.heap.size) 2 (.int .i64 D), .free (w5.heap.size) 0, .free (w5.heap.size) 1, .free (w5.heap.size) 2, .cell (w4.heap.size) 0 (.int .i64 Y), .cell (w4.heap.size) 1 (.int .i64 M), .cell (w4.heap.size) 2 (.int .i64 D), .free (w4.heap.size) 0, .free (w4.heap.size) 1, .free (w4.heap.size) 2, .cell (w.heap.size) 0 (.int .i64 y), .cell (w.heap.size) 1 (.int .i64 m), .cell (w.heap.size) 2 (.int .i64 d), .free (w.heap.size) 0, .free (w.heap.size) 1, .free (w.heap.size) 2, lensF] w' → w'.cell? ⟨w.heap.size, 0, none⟩ = some (.int .i64 y) ∧ w'.cell? ⟨w.heap.size, 1, none⟩ = some (.int .i64 m) ∧ w'.cell? ⟨w.heap.size, 2, none⟩ = some (.int .i64 d) ∧ w'.cell? ⟨w4.heap.size, 0, none⟩ = some (.int .i64 Y) ∧ w'.cell? ⟨w4.heap.size, 1, none⟩ = some (.int .i64 M) ∧ w'.cell? ⟨w4.heap.size, 2, none⟩ = some (.int .i64 D) ∧ w'.cell? ⟨w5.heap.size, 0, none⟩ = some (.int .i64 Y) ∧ w'.cell? ⟨w5.heap.size, 1, none⟩ = some (.int .i64 M) ∧ w'.cell? ⟨w5.heap.size, 2, none⟩ = some (.int .i64 D) ∧ Held w [.cell (w5.heap.size) 0 (.int .i64 Y), .cell (w5.heap.size) 1 (.int .i64 M), .cell (w5.heap.size) 2 (.int .i64 D), .free (w5.heap.size) 0, .free (w5.heap.size) 1, .free (w5.heap.size) 2, .cell (w4.heap.size) 0 (.int .i64 Y), .cell (w4.heap.size) 1 (.int .i64 M), .cell (w4.heap.size) 2 (.int .i64 D), .free (w4.heap.size) 0, .free (w4.heap.size) 1, .free (w4.heap.size) 2, .cell (w.heap.size) 0 (.int .i64 y), .cell (w.heap.size) 1 (.int .i64 m), .cell (w.heap.size) 2 (.int .i64 d), .free (w.heap.size) 0, .free (w.heap.size) 1, .free (w.heap.size) 2, lensF] w') := Lib.hid (fun _ h => ⟨h.cell (w.heap.size) 0 (.int .i64 y) (List.Mem.tail _ (List.Mem.tail _ (List.Mem.tail _ (List.Mem.tail _ (List.Mem.tail _ (List.Mem.tail _ (List.Mem.tail _ (List.Mem.tail _ (List.Mem.tail _ (List.Mem.tail _ (List.Mem.tail _ (List.Mem.tail _ (List.Mem.head _))))))))))))), h.cell (w.heap.size) 1 (.int .i64 m) (List.Mem.tail _ (List.Mem.tail _ (List.Mem.tail _ (List.Mem.tail _ (List.Mem.tail _ (List.Mem.tail _ (List.Mem.tail _ (List.Mem.tail _ (List.Mem.tail _ (List.Mem.tail _ (List.Mem.tail _ (List.Mem.tail _ (List.Mem.tail _ (List.Mem.head _)))))))))))))), h.cell (w.heap.size) 2 (.int .i64 d) (List.Mem.tail _ (List.Mem.tail _ (List.Mem.tail _ (List.Mem.tail _ (List.Mem.tail _ (List.Mem.tail _ (List.Mem.tail _ (List.Mem.tail _ (List.Mem.tail _ (List.Mem.tail _ (List.Mem.tail _ (List.Mem.tail _ (List.Mem.tail _ (List.Mem.tail _ (List.Mem.head _))))))))))))))), h.cell (w4.heap.size) 0 (.int .i64 Y) (List.Mem.tail _ (List.Mem.tail _ (List.Mem.tail _ (List.Mem.tail _ (List.Mem.tail _ (List.Mem.tail _ (List.Mem.head _))))))), h.cell (w4.heap.size) 1 (.int .i64 M) (List.Mem.tail _ (List.Mem.tail _ (List.Mem.tail _ (List.Mem.tail _ (List.Mem.tail _ (List.Mem.tail _ (List.Mem.tail _ (List.Mem.head _)))))))), h.cell (w4.heap.size) 2 (.int .i64 D) (List.Mem.tail _ (List.Mem.tail _ (List.Mem.tail _ (List.Mem.tail _ (List.Mem.tail _ (List.Mem.tail _ (List.Mem.tail _ (List.Mem.tail _ (List.Mem.head _))))))))), h.cell (w5.heap.size) 0 (.int .i64 Y) (List.Mem.head _), h.cell (w5.heap.size) 1 (.int .i64 M) (List.Mem.tail _ (List.Mem.head _)), h.cell (w5.heap.size) 2 (.int .i64 D) (List.Mem.tail _ (List.Mem.tail _ (List.Mem.head _))), h⟩)
  have KH : Hid (∀ w' : World, w'.cell? ⟨w.heap.size, 0, none⟩ = some (.int .i64 y) ∧ w'.cell? ⟨w.heap.size, 1, none⟩ = some (.int .i64 m) ∧ w'.cell? ⟨w.heap.size, 2, none⟩ = some (.int .i64 d) ∧ w'.cell? ⟨w4.heap.size, 0, none⟩ = some (.int .i64 Y) ∧ w'.cell? ⟨w4.heap.size, 1, none⟩ = some (.int .i64 M) ∧ w'.cell? ⟨w4.heap.size, 2, none⟩ = some (.int .i64 D) ∧ w'.cell? ⟨w5.heap.size, 0, none⟩ = some (.int .i64 Y) ∧ w'.cell? ⟨w5.heap.size, 1, none⟩ = some (.int .i64 M) ∧ w'.cell? ⟨w5.heap.size, 2, none⟩ = some (.int .i64 D) ∧ Held w [.cell (w5.heap.size) 0 (.int .i64 Y), .cell (w5.heap.size) 1 (.int .i64 M), .cell (w5.heap.size) 2 (.int .i64 D), .free (w5.heap.size) 0, .free (w5.heap.size) 1, .free (w5.heap.size) 2, .cell (w4.heap.size) 0 (.int .i64 Y), .cell (w4.heap.size) 1 (.int .i64 M), .cell (w4.heap.size) 2 (.int .i64 D), .free (w4.heap.size) 0, .free (w4.heap.size) 1, .free (w4.heap.size) 2, .cell (w.heap.size) 0 (.int .i64 y), .cell (w.heap.size) 1 (.int .i64 m), .cell (w.heap.size) 2 (.int .i64 d), .free (w.heap.size) 0, .free (w.heap.size) 1, .free (w.heap.size) 2, lensF] w' → Held w [.cell (w5.heap.size) 0 (.int .i64 Y), .cell (w5.heap.size) 1 (.int .i64 M), .cell (w5.heap.size) 2 (.int .i64 D), .free (w5.heap.size) 0, .free (w5.heap.size) 1, .free (w5.heap.size) 2, .cell (w4.heap.size) 0 (.int .i64 Y), .cell (w4.heap.size) 1 (.int .i64 M), .cell (w4.heap.size) 2 (.int .i64 D), .free (w4.heap.size) 0, .free (w4.heap.size) 1, .free (w4.heap.size) 2, .cell (w.heap.size) 0 (.int .i64 y), .cell (w.heap.size) 1 (.int .i64 m), .cell (w.heap.size) 2 (.int .i64 d), .free (w.heap.size) 0, .free (w.heap.size) 1, .free (w.heap.size) 2, lensF] w') := Lib.hid (fun _ h => h.2.2.2.2.2.2.2.2.2)
  have KL : Hid (∀ w' : World, w'.cell? ⟨w.heap.size, 0, none⟩ = some (.int .i64 y) ∧ w'.cell? ⟨w.heap.size, 1, none⟩ = some (.int .i64 m) ∧ w'.cell? ⟨w.heap.size, 2, none⟩ = some (.int .i64 d) ∧ w'.cell? ⟨w4.heap.size, 0, none⟩ = some (.int .i64 Y) ∧ w'.cell? ⟨w4.heap.size, 1, none⟩ = some (.int .i64 M) ∧ w'.cell? ⟨w4.heap.size, 2, none⟩ = some (.int .i64 D) ∧ w'.cell? ⟨w5.heap.size, 0, none⟩ = some (.int .i64 Y) ∧ w'.cell? ⟨w5.heap.size, 1, none⟩ = some (.int .i64 M) ∧ w'.cell? ⟨w5.heap.size, 2, none⟩ = some (.int .i64 D) ∧ Held w [.cell (w5.heap.size) 0 (.int .i64 Y), .cell (w5.heap.size) 1 (.int .i64 M), .cell (w5.heap.size) 2 (.int .i64 D), .free (w5.heap.size) 0, .free (w5.heap.size) 1, .free (w5.heap.size) 2, .cell (w4.heap.size) 0 (.int .i64 Y), .cell (w4.heap.size) 1 (.int .i64 M), .cell (w4.heap.size) 2 (.int .i64 D), .free (w4.heap.size) 0, .free (w4.heap.size) 1, .free (w4.heap.size) 2, .cell (w.heap.size) 0 (.int .i64 y), .cell (w.heap.size) 1 (.int .i64 m), .cell (w.heap.size) 2 (.int .i64 d), .free (w.heap.size) 0, .free (w.heap.size) 1, .free (w.heap.size) 2, lensF] w' → Lens w') := Lib.hid (fun w' h => (KH.out w' h).lens (List.Mem.tail _ (List.Mem.tail _ (List.Mem.tail _ (List.Mem.tail _ (List.Mem.tail _ (List.Mem.tail _ (List.Mem.tail _ (List.Mem.tail _ (List.Mem.tail _ (List.Mem.tail _ (List.Mem.tail _ (List.Mem.tail _ (List.Mem.tail _ (List.Mem.tail _ (List.Mem.tail _ (List.Mem.tail _ (List.Mem.tail _ (List.Mem.tail _ (List.Mem.head _))))))))))))))))))))
  have HS := Lib.hid (KS.out _ H.drew)
  go_region_held3 (fun w' => w'.cell? ⟨w.heap.size, 0, none⟩ = some (.int .i64 y) ∧ w'.cell? ⟨w.heap.size, 1, none⟩ = some (.int .i64 m) ∧ w'.cell? ⟨w.heap.size, 2, none⟩ = some (.int .i64 d) ∧ w'.cell? ⟨w4.heap.size, 0, none⟩ = some (.int .i64 Y) ∧ w'.cell? ⟨w4.heap.size, 1, none⟩ = some (.int .i64 M) ∧ w'.cell? ⟨w4.heap.size, 2, none⟩ = some (.int .i64 D) ∧ w'.cell? ⟨w5.heap.size, 0, none⟩ = some (.int .i64 Y) ∧ w'.cell? ⟨w5.heap.size, 1, none⟩ = some (.int .i64 M) ∧ w'.cell? ⟨w5.heap.size, 2, none⟩ = some (.int .i64 D) ∧ Held w [.cell (w5.heap.size) 0 (.int .i64 Y), .cell (w5.heap.size) 1 (.int .i64 M), .cell (w5.heap.size) 2 (.int .i64 D), .free (w5.heap.size) 0, .free (w5.heap.size) 1, .free (w5.heap.size) 2, .cell (w4.heap.size) 0 (.int .i64 Y), .cell (w4.heap.size) 1 (.int .i64 M), .cell (w4.heap.size) 2 (.int .i64 D), .free (w4.heap.size) 0, .free (w4.heap.size) 1, .free (w4.heap.size) 2, .cell (w.heap.size) 0 (.int .i64 y), .cell (w.heap.size) 1 (.int .i64 m), .cell (w.heap.size) 2 (.int .i64 d), .free (w.heap.size) 0, .free (w.heap.size) 1, .free (w.heap.size) 2, lensF] w')
    (first | exact HS.out | (refine KS.out _ (Held.below (KH.out _ ?_) hb); assumption) | (refine KS.out _ (Held.alloc (KH.out _ ?_) _); assumption))
    (first
      | (go_at_call 15; (with_reducible refine (leap_is y b _ HB.out).mono ?_); rintro e w' ⟨rfl, hb⟩)
      | (go_at_call 16; (with_reducible refine (rleap_is y b _ HB.out).mono ?_); rintro e w' ⟨rfl, hb⟩)
      | (go_at_call 17; (with_reducible refine (length_is y m l _ (KL.out _ (by assumption)) HW.out).mono ?_); rintro e w' ⟨rfl, hb⟩)
      | (go_at_call 18; (with_reducible refine (rlength_is y m l _ HW.out).mono ?_); rintro e w' ⟨rfl, hb⟩)
      | (go_at_call 19; (with_reducible refine (may_is y m d c _ (KL.out _ (by assumption)) HM.out).mono ?_); rintro e w' ⟨rfl, hb⟩)
      | (go_at_call 20; (with_reducible refine (rmay_is y m d c _ HM.out).mono ?_); rintro e w' ⟨rfl, hb⟩)
      | (go_at_call 21; (with_reducible refine (week_is n k _ HK.out).mono ?_); rintro e w' ⟨rfl, hb⟩)
      | (go_at_call 22; (with_reducible refine (rweek_is n k _ HK.out).mono ?_); rintro e w' ⟨rfl, hb⟩))
  all_goals
    go_wp2
    go_ret
    exact ⟨rfl, (KH.out _ (by assumption)).old⟩
end Go.Proofs.YthnondaheppkiaaDoor
