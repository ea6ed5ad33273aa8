/- RuleMany: the walk. -/
import Derived.Test.YtdnpljljjnjmdaaDoorRuShown
namespace Go.Proofs.YtdnpljljjnjmdaaDoor
open Go.RowKit
set_option linter.unusedVariables false
set_option linter.unusedSimpArgs false


set_option maxHeartbeats 8000000 in
set_option maxRecDepth 100000 in
theorem rumany_no (K : RWay) (k m d q o s f t i : Int) (w : World) (hL : FactsU w) (bi : 0 ≤ i ∧ i < 65536) (h : Ru.mb ⟨k, m, d, q, o, s, f, t⟩ = false) :
    Calls Tryd.prog 6 #[.agg #[.int .i64 k, .int .i64 m, .int .i64 d, .int .i64 q, .int .i64 o, .int .i64 s, .int .i64 f, .int .i64 t], .int .u16 i] w fun e w' => e = .returned (.bool true) ∧ Below w.heap.size w w' := by
  have H := (Held.start w).add (f := factsUF) hL
  clear hL
  have HM := Lib.hid h
  clear h
  go_enter Tryd.func6, Tryd.ntmps6
  go_wp2_with fail
  replace H := (H.oct (w.heap.size) (.int .i64 k) (.int .i64 m) (.int .i64 d) (.int .i64 q) (.int .i64 o) (.int .i64 s) (.int .i64 f) (.int .i64 t) 23 rfl)
  (with_reducible refine (rushown_any K _ (H.factsU (List.Mem.tail _ (List.Mem.tail _ (List.Mem.tail _ (List.Mem.tail _ (List.Mem.tail _ (List.Mem.tail _ (List.Mem.tail _ (List.Mem.tail _ (List.Mem.tail _ (List.Mem.tail _ (List.Mem.tail _ (List.Mem.tail _ (List.Mem.tail _ (List.Mem.tail _ (List.Mem.tail _ (List.Mem.tail _ (List.Mem.head _))))))))))))))))))).mono ?_)
  rintro e w1 ⟨rfl, hb⟩
  replace H := H.below hb
  clear hb
  have cr0 := H.cell (w.heap.size) 0 (.int .i64 k) (List.Mem.head _)
  have cr1 := H.cell (w.heap.size) 1 (.int .i64 m) (List.Mem.tail _ (List.Mem.head _))
  have cr2 := H.cell (w.heap.size) 2 (.int .i64 d) (List.Mem.tail _ (List.Mem.tail _ (List.Mem.head _)))
  have cr3 := H.cell (w.heap.size) 3 (.int .i64 q) (List.Mem.tail _ (List.Mem.tail _ (List.Mem.tail _ (List.Mem.head _))))
  have cr4 := H.cell (w.heap.size) 4 (.int .i64 o) (List.Mem.tail _ (List.Mem.tail _ (List.Mem.tail _ (List.Mem.tail _ (List.Mem.head _)))))
  have cr5 := H.cell (w.heap.size) 5 (.int .i64 s) (List.Mem.tail _ (List.Mem.tail _ (List.Mem.tail _ (List.Mem.tail _ (List.Mem.tail _ (List.Mem.head _))))))
  have cr6 := H.cell (w.heap.size) 6 (.int .i64 f) (List.Mem.tail _ (List.Mem.tail _ (List.Mem.tail _ (List.Mem.tail _ (List.Mem.tail _ (List.Mem.tail _ (List.Mem.head _)))))))
  have cr7 := H.cell (w.heap.size) 7 (.int .i64 t) (List.Mem.tail _ (List.Mem.tail _ (List.Mem.tail _ (List.Mem.tail _ (List.Mem.tail _ (List.Mem.tail _ (List.Mem.tail _ (List.Mem.head _))))))))
  have lr := H.lt (w.heap.size) 0 (.int .i64 k) (List.Mem.head _)
  go_wp2_with fail
  clear cr0 cr1 cr2 cr3 cr4 cr5 cr6 cr7 lr
  (with_reducible refine (rumay_any k m d q o s f t false _ HM.out).mono ?_)
  rintro e w2 ⟨rfl, hb⟩
  replace H := H.below hb
  clear hb
  go_wp2_with fail
  go_ret
  exact ⟨rfl, H.old⟩

set_option maxHeartbeats 8000000 in
set_option maxRecDepth 100000 in
theorem rumany_east (K : RWay) (k m d q o s f t i : Int) (w : World) (hL : FactsU w) (bi : 0 ≤ i ∧ i < 65536) (hk : k = 3) (h : Ru.mb ⟨k, m, d, q, o, s, f, t⟩ = true) :
    Calls Tryd.prog 6 #[.agg #[.int .i64 k, .int .i64 m, .int .i64 d, .int .i64 q, .int .i64 o, .int .i64 s, .int .i64 f, .int .i64 t], .int .u16 i] w fun e w' => e = .returned (.bool true) ∧ Below w.heap.size w w' := by
  have H := (Held.start w).add (f := factsUF) hL
  clear hL
  have HM := Lib.hid h
  clear h
  subst hk
  go_enter Tryd.func6, Tryd.ntmps6
  go_wp2_with fail
  replace H := (H.oct (w.heap.size) (.int .i64 3) (.int .i64 m) (.int .i64 d) (.int .i64 q) (.int .i64 o) (.int .i64 s) (.int .i64 f) (.int .i64 t) 23 rfl)
  (with_reducible refine (rushown_any K _ (H.factsU (List.Mem.tail _ (List.Mem.tail _ (List.Mem.tail _ (List.Mem.tail _ (List.Mem.tail _ (List.Mem.tail _ (List.Mem.tail _ (List.Mem.tail _ (List.Mem.tail _ (List.Mem.tail _ (List.Mem.tail _ (List.Mem.tail _ (List.Mem.tail _ (List.Mem.tail _ (List.Mem.tail _ (List.Mem.tail _ (List.Mem.head _))))))))))))))))))).mono ?_)
  rintro e w1 ⟨rfl, hb⟩
  replace H := H.below hb
  clear hb
  have cr0 := H.cell (w.heap.size) 0 (.int .i64 3) (List.Mem.head _)
  have cr1 := H.cell (w.heap.size) 1 (.int .i64 m) (List.Mem.tail _ (List.Mem.head _))
  have cr2 := H.cell (w.heap.size) 2 (.int .i64 d) (List.Mem.tail _ (List.Mem.tail _ (List.Mem.head _)))
  have cr3 := H.cell (w.heap.size) 3 (.int .i64 q) (List.Mem.tail _ (List.Mem.tail _ (List.Mem.tail _ (List.Mem.head _))))
  have cr4 := H.cell (w.heap.size) 4 (.int .i64 o) (List.Mem.tail _ (List.Mem.tail _ (List.Mem.tail _ (List.Mem.tail _ (List.Mem.head _)))))
  have cr5 := H.cell (w.heap.size) 5 (.int .i64 s) (List.Mem.tail _ (List.Mem.tail _ (List.Mem.tail _ (List.Mem.tail _ (List.Mem.tail _ (List.Mem.head _))))))
  have cr6 := H.cell (w.heap.size) 6 (.int .i64 f) (List.Mem.tail _ (List.Mem.tail _ (List.Mem.tail _ (List.Mem.tail _ (List.Mem.tail _ (List.Mem.tail _ (List.Mem.head _)))))))
  have cr7 := H.cell (w.heap.size) 7 (.int .i64 t) (List.Mem.tail _ (List.Mem.tail _ (List.Mem.tail _ (List.Mem.tail _ (List.Mem.tail _ (List.Mem.tail _ (List.Mem.tail _ (List.Mem.head _))))))))
  have lr := H.lt (w.heap.size) 0 (.int .i64 3) (List.Mem.head _)
  go_wp2_with fail
  clear cr0 cr1 cr2 cr3 cr4 cr5 cr6 cr7 lr
  (with_reducible refine (rumay_any 3 m d q o s f t true _ HM.out).mono ?_)
  rintro e w2 ⟨rfl, hb⟩
  replace H := H.below hb
  clear hb
  have cr0 := H.cell (w.heap.size) 0 (.int .i64 3) (List.Mem.head _)
  have cr1 := H.cell (w.heap.size) 1 (.int .i64 m) (List.Mem.tail _ (List.Mem.head _))
  have cr2 := H.cell (w.heap.size) 2 (.int .i64 d) (List.Mem.tail _ (List.Mem.tail _ (List.Mem.head _)))
  have cr3 := H.cell (w.heap.size) 3 (.int .i64 q) (List.Mem.tail _ (List.Mem.tail _ (List.Mem.tail _ (List.Mem.head _))))
  have cr4 := H.cell (w.heap.size) 4 (.int .i64 o) (List.Mem.tail _ (List.Mem.tail _ (List.Mem.tail _ (List.Mem.tail _ (List.Mem.head _)))))
  have cr5 := H.cell (w.heap.size) 5 (.int .i64 s) (List.Mem.tail _ (List.Mem.tail _ (List.Mem.tail _ (List.Mem.tail _ (List.Mem.tail _ (List.Mem.head _))))))
  have cr6 := H.cell (w.heap.size) 6 (.int .i64 f) (List.Mem.tail _ (List.Mem.tail _ (List.Mem.tail _ (List.Mem.tail _ (List.Mem.tail _ (List.Mem.tail _ (List.Mem.head _)))))))
  have cr7 := H.cell (w.heap.size) 7 (.int .i64 t) (List.Mem.tail _ (List.Mem.tail _ (List.Mem.tail _ (List.Mem.tail _ (List.Mem.tail _ (List.Mem.tail _ (List.Mem.tail _ (List.Mem.head _))))))))
  have lr := H.lt (w.heap.size) 0 (.int .i64 3) (List.Mem.head _)
  go_wp2_with fail
  clear cr0 cr1 cr2 cr3 cr4 cr5 cr6 cr7 lr
  go_ret
  exact ⟨rfl, H.old⟩
theorem wrap_plain {x : Int} (h : -1000000 ≤ x ∧ x ≤ 1000000) : wrap64 x = x := by unfold wrap64; omega

set_option maxHeartbeats 8000000 in
set_option maxRecDepth 100000 in
theorem rumany_last (K : RWay) (k m d q o s f t i y n : Int) (w : World) (hL : FactsU w) (bi : 0 ≤ i ∧ i < 65536) (hk0 : k = 2)  (h : Ru.mb ⟨k, m, d, q, o, s, f, t⟩ = true) (hM : Ru.May ⟨k, m, d, q, o, s, f, t⟩) (ft : 1 ≤ f ∧ f ≤ t ∧ t ≤ 9999) (hw : wrap64 (f + i % (t - f + 1)) = y) (ha : Ru.bas ⟨k, m, d, q, o, s, f, t⟩ y = n) (hab : decide (0 < n) = true) (hP : Ru.May ⟨k, m, d, q, o, 0, f, t⟩) (hI : Ru.Is ⟨k, m, d, q, o, 0, f, t⟩ n) (hX : ∀ j, -20 ≤ j → j ≤ 20 → j ≠ 0 → ¬ Ru.Is ⟨k, m, d, q, o, 0, f, t⟩ (n + j)) (nb : 1 ≤ n ∧ n ≤ 3652059) :
    Calls Tryd.prog 6 #[.agg #[.int .i64 k, .int .i64 m, .int .i64 d, .int .i64 q, .int .i64 o, .int .i64 s, .int .i64 f, .int .i64 t], .int .u16 i] w fun e w' => e = .returned (.bool true) ∧ Below w.heap.size w w' := by
  have H := (Held.start w).add (f := factsUF) hL
  clear hL
  have HM := Lib.hid h
  have MM := Lib.hid hM
  have HW := Lib.hid hw
  have HA := Lib.hid ha
  have AB := Lib.hid hab
  have MP := Lib.hid hP
  have HI := Lib.hid hI
  have HX := Lib.hid hX
  clear h hM hw ha hab hP hI hX
  subst hk0
  go_enter Tryd.func6, Tryd.ntmps6
  go_wp2_with fail
  replace H := (H.oct (w.heap.size) (.int .i64 2) (.int .i64 m) (.int .i64 d) (.int .i64 q) (.int .i64 o) (.int .i64 s) (.int .i64 f) (.int .i64 t) 23 rfl)
  (with_reducible refine (rushown_any K _ (H.factsU (List.Mem.tail _ (List.Mem.tail _ (List.Mem.tail _ (List.Mem.tail _ (List.Mem.tail _ (List.Mem.tail _ (List.Mem.tail _ (List.Mem.tail _ (List.Mem.tail _ (List.Mem.tail _ (List.Mem.tail _ (List.Mem.tail _ (List.Mem.tail _ (List.Mem.tail _ (List.Mem.tail _ (List.Mem.tail _ (List.Mem.head _))))))))))))))))))).mono ?_)
  rintro e w1 ⟨rfl, hb⟩
  replace H := H.below hb
  clear hb
  have cr0 := H.cell (w.heap.size) 0 (.int .i64 2) (List.Mem.head _)
  have cr1 := H.cell (w.heap.size) 1 (.int .i64 m) (List.Mem.tail _ (List.Mem.head _))
  have cr2 := H.cell (w.heap.size) 2 (.int .i64 d) (List.Mem.tail _ (List.Mem.tail _ (List.Mem.head _)))
  have cr3 := H.cell (w.heap.size) 3 (.int .i64 q) (List.Mem.tail _ (List.Mem.tail _ (List.Mem.tail _ (List.Mem.head _))))
  have cr4 := H.cell (w.heap.size) 4 (.int .i64 o) (List.Mem.tail _ (List.Mem.tail _ (List.Mem.tail _ (List.Mem.tail _ (List.Mem.head _)))))
  have cr5 := H.cell (w.heap.size) 5 (.int .i64 s) (List.Mem.tail _ (List.Mem.tail _ (List.Mem.tail _ (List.Mem.tail _ (List.Mem.tail _ (List.Mem.head _))))))
  have cr6 := H.cell (w.heap.size) 6 (.int .i64 f) (List.Mem.tail _ (List.Mem.tail _ (List.Mem.tail _ (List.Mem.tail _ (List.Mem.tail _ (List.Mem.tail _ (List.Mem.head _)))))))
  have cr7 := H.cell (w.heap.size) 7 (.int .i64 t) (List.Mem.tail _ (List.Mem.tail _ (List.Mem.tail _ (List.Mem.tail _ (List.Mem.tail _ (List.Mem.tail _ (List.Mem.tail _ (List.Mem.head _))))))))
  have lr := H.lt (w.heap.size) 0 (.int .i64 2) (List.Mem.head _)
  go_wp2_with fail
  clear cr0 cr1 cr2 cr3 cr4 cr5 cr6 cr7 lr
  (with_reducible refine (rumay_any 2 m d q o s f t true _ HM.out).mono ?_)
  rintro e w2 ⟨rfl, hb⟩
  replace H := H.below hb
  clear hb
  have cr0 := H.cell (w.heap.size) 0 (.int .i64 2) (List.Mem.head _)
  have cr1 := H.cell (w.heap.size) 1 (.int .i64 m) (List.Mem.tail _ (List.Mem.head _))
  have cr2 := H.cell (w.heap.size) 2 (.int .i64 d) (List.Mem.tail _ (List.Mem.tail _ (List.Mem.head _)))
  have cr3 := H.cell (w.heap.size) 3 (.int .i64 q) (List.Mem.tail _ (List.Mem.tail _ (List.Mem.tail _ (List.Mem.head _))))
  have cr4 := H.cell (w.heap.size) 4 (.int .i64 o) (List.Mem.tail _ (List.Mem.tail _ (List.Mem.tail _ (List.Mem.tail _ (List.Mem.head _)))))
  have cr5 := H.cell (w.heap.size) 5 (.int .i64 s) (List.Mem.tail _ (List.Mem.tail _ (List.Mem.tail _ (List.Mem.tail _ (List.Mem.tail _ (List.Mem.head _))))))
  have cr6 := H.cell (w.heap.size) 6 (.int .i64 f) (List.Mem.tail _ (List.Mem.tail _ (List.Mem.tail _ (List.Mem.tail _ (List.Mem.tail _ (List.Mem.tail _ (List.Mem.head _)))))))
  have cr7 := H.cell (w.heap.size) 7 (.int .i64 t) (List.Mem.tail _ (List.Mem.tail _ (List.Mem.tail _ (List.Mem.tail _ (List.Mem.tail _ (List.Mem.tail _ (List.Mem.tail _ (List.Mem.head _))))))))
  have lr := H.lt (w.heap.size) 0 (.int .i64 2) (List.Mem.head _)
  go_wp2_with fail
  clear cr0 cr1 cr2 cr3 cr4 cr5 cr6 cr7 lr
  have cr0 := H.cell (w.heap.size) 0 (.int .i64 2) (List.Mem.head _)
  have cr1 := H.cell (w.heap.size) 1 (.int .i64 m) (List.Mem.tail _ (List.Mem.head _))
  have cr2 := H.cell (w.heap.size) 2 (.int .i64 d) (List.Mem.tail _ (List.Mem.tail _ (List.Mem.head _)))
  have cr3 := H.cell (w.heap.size) 3 (.int .i64 q) (List.Mem.tail _ (List.Mem.tail _ (List.Mem.tail _ (List.Mem.head _))))
  have cr4 := H.cell (w.heap.size) 4 (.int .i64 o) (List.Mem.tail _ (List.Mem.tail _ (List.Mem.tail _ (List.Mem.tail _ (List.Mem.head _)))))
  have cr5 := H.cell (w.heap.size) 5 (.int .i64 s) (List.Mem.tail _ (List.Mem.tail _ (List.Mem.tail _ (List.Mem.tail _ (List.Mem.tail _ (List.Mem.head _))))))
  have cr6 := H.cell (w.heap.size) 6 (.int .i64 f) (List.Mem.tail _ (List.Mem.tail _ (List.Mem.tail _ (List.Mem.tail _ (List.Mem.tail _ (List.Mem.tail _ (List.Mem.head _)))))))
  have cr7 := H.cell (w.heap.size) 7 (.int .i64 t) (List.Mem.tail _ (List.Mem.tail _ (List.Mem.tail _ (List.Mem.tail _ (List.Mem.tail _ (List.Mem.tail _ (List.Mem.tail _ (List.Mem.head _))))))))
  have lr := H.lt (w.heap.size) 0 (.int .i64 2) (List.Mem.head _)
  go_quiet (fail)
  go_wp2_with fail
  clear cr0 cr1 cr2 cr3 cr4 cr5 cr6 cr7 lr
  replace H := H.drewN nq
  rw [HW.out]
  (with_reducible refine (K.base 2 m d q o s f t y n true _ (H.factsU (List.Mem.tail _ (List.Mem.tail _ (List.Mem.tail _ (List.Mem.tail _ (List.Mem.tail _ (List.Mem.tail _ (List.Mem.tail _ (List.Mem.tail _ (List.Mem.tail _ (List.Mem.tail _ (List.Mem.tail _ (List.Mem.tail _ (List.Mem.tail _ (List.Mem.tail _ (List.Mem.tail _ (List.Mem.tail _ (List.Mem.head _)))))))))))))))))) MM.out HA.out AB.out).mono ?_)
  rintro e w3 ⟨rfl, hb⟩
  replace H := H.below hb
  clear hb
  have cr0 := H.cell (w.heap.size) 0 (.int .i64 2) (List.Mem.head _)
  have cr1 := H.cell (w.heap.size) 1 (.int .i64 m) (List.Mem.tail _ (List.Mem.head _))
  have cr2 := H.cell (w.heap.size) 2 (.int .i64 d) (List.Mem.tail _ (List.Mem.tail _ (List.Mem.head _)))
  have cr3 := H.cell (w.heap.size) 3 (.int .i64 q) (List.Mem.tail _ (List.Mem.tail _ (List.Mem.tail _ (List.Mem.head _))))
  have cr4 := H.cell (w.heap.size) 4 (.int .i64 o) (List.Mem.tail _ (List.Mem.tail _ (List.Mem.tail _ (List.Mem.tail _ (List.Mem.head _)))))
  have cr5 := H.cell (w.heap.size) 5 (.int .i64 s) (List.Mem.tail _ (List.Mem.tail _ (List.Mem.tail _ (List.Mem.tail _ (List.Mem.tail _ (List.Mem.head _))))))
  have cr6 := H.cell (w.heap.size) 6 (.int .i64 f) (List.Mem.tail _ (List.Mem.tail _ (List.Mem.tail _ (List.Mem.tail _ (List.Mem.tail _ (List.Mem.tail _ (List.Mem.head _)))))))
  have cr7 := H.cell (w.heap.size) 7 (.int .i64 t) (List.Mem.tail _ (List.Mem.tail _ (List.Mem.tail _ (List.Mem.tail _ (List.Mem.tail _ (List.Mem.tail _ (List.Mem.tail _ (List.Mem.head _))))))))
  have lr := H.lt (w.heap.size) 0 (.int .i64 2) (List.Mem.head _)
  go_wp2_with fail
  clear cr0 cr1 cr2 cr3 cr4 cr5 cr6 cr7 lr
  replace H := (H.oct (w3.heap.size) (.int .i64 2) (.int .i64 m) (.int .i64 d) (.int .i64 q) (.int .i64 o) (.int .i64 0) (.int .i64 f) (.int .i64 t) 23 rfl)
  go_loopw [11] (fun u W' => ∃ j : Int, u = .int .i64 j ∧ -20 ≤ j ∧ j ≤ 21 ∧ Held w [.cell (w3.heap.size) 0 (.int .i64 2), .cell (w3.heap.size) 1 (.int .i64 m), .cell (w3.heap.size) 2 (.int .i64 d), .cell (w3.heap.size) 3 (.int .i64 q), .cell (w3.heap.size) 4 (.int .i64 o), .cell (w3.heap.size) 5 (.int .i64 0), .cell (w3.heap.size) 6 (.int .i64 f), .cell (w3.heap.size) 7 (.int .i64 t), .free (w3.heap.size) 0, .free (w3.heap.size) 1, .free (w3.heap.size) 2, .free (w3.heap.size) 3, .free (w3.heap.size) 4, .free (w3.heap.size) 5, .free (w3.heap.size) 6, .free (w3.heap.size) 7, .cell (w.heap.size) 0 (.int .i64 2), .cell (w.heap.size) 1 (.int .i64 m), .cell (w.heap.size) 2 (.int .i64 d), .cell (w.heap.size) 3 (.int .i64 q), .cell (w.heap.size) 4 (.int .i64 o), .cell (w.heap.size) 5 (.int .i64 s), .cell (w.heap.size) 6 (.int .i64 f), .cell (w.heap.size) 7 (.int .i64 t), .free (w.heap.size) 0, .free (w.heap.size) 1, .free (w.heap.size) 2, .free (w.heap.size) 3, .free (w.heap.size) 4, .free (w.heap.size) 5, .free (w.heap.size) 6, .free (w.heap.size) 7, factsUF] W') (fun u _ => (21 - intOf u).toNat)
  case atStart => exact ⟨-20, rfl, by omega, by omega, H⟩
  case round =>
    clear H
    obtain ⟨j, rfl, j1, j2, H⟩ := hrel
    by_cases hj : j ≤ 20
    · by_cases j0 : j = 0
      · subst j0
        have cz0 := H.cell (w3.heap.size) 0 (.int .i64 2) (List.Mem.head _)
        have cz1 := H.cell (w3.heap.size) 1 (.int .i64 m) (List.Mem.tail _ (List.Mem.head _))
        have cz2 := H.cell (w3.heap.size) 2 (.int .i64 d) (List.Mem.tail _ (List.Mem.tail _ (List.Mem.head _)))
        have cz3 := H.cell (w3.heap.size) 3 (.int .i64 q) (List.Mem.tail _ (List.Mem.tail _ (List.Mem.tail _ (List.Mem.head _))))
        have cz4 := H.cell (w3.heap.size) 4 (.int .i64 o) (List.Mem.tail _ (List.Mem.tail _ (List.Mem.tail _ (List.Mem.tail _ (List.Mem.head _)))))
        have cz5 := H.cell (w3.heap.size) 5 (.int .i64 0) (List.Mem.tail _ (List.Mem.tail _ (List.Mem.tail _ (List.Mem.tail _ (List.Mem.tail _ (List.Mem.head _))))))
        have cz6 := H.cell (w3.heap.size) 6 (.int .i64 f) (List.Mem.tail _ (List.Mem.tail _ (List.Mem.tail _ (List.Mem.tail _ (List.Mem.tail _ (List.Mem.tail _ (List.Mem.head _)))))))
        have cz7 := H.cell (w3.heap.size) 7 (.int .i64 t) (List.Mem.tail _ (List.Mem.tail _ (List.Mem.tail _ (List.Mem.tail _ (List.Mem.tail _ (List.Mem.tail _ (List.Mem.tail _ (List.Mem.head _))))))))
        have lz := H.lt (w3.heap.size) 0 (.int .i64 2) (List.Mem.head _)
        go_wp2
        go_roundw
        case rel => exact ⟨0 + 1, rfl, by omega, by omega, H⟩
        case measure => simp [intOf]
      · have jz : (j != 0) = true := by simpa using j0
        have NI := Lib.hid (HX.out j j1 hj j0)
        clear j0
        obtain ⟨e, hD⟩ : ∃ e, Hid (decide (1 ≤ n + j ∧ n + j ≤ 3652059) = e) := ⟨_, Lib.hid rfl⟩
        have cz0 := H.cell (w3.heap.size) 0 (.int .i64 2) (List.Mem.head _)
        have cz1 := H.cell (w3.heap.size) 1 (.int .i64 m) (List.Mem.tail _ (List.Mem.head _))
        have cz2 := H.cell (w3.heap.size) 2 (.int .i64 d) (List.Mem.tail _ (List.Mem.tail _ (List.Mem.head _)))
        have cz3 := H.cell (w3.heap.size) 3 (.int .i64 q) (List.Mem.tail _ (List.Mem.tail _ (List.Mem.tail _ (List.Mem.head _))))
        have cz4 := H.cell (w3.heap.size) 4 (.int .i64 o) (List.Mem.tail _ (List.Mem.tail _ (List.Mem.tail _ (List.Mem.tail _ (List.Mem.head _)))))
        have cz5 := H.cell (w3.heap.size) 5 (.int .i64 0) (List.Mem.tail _ (List.Mem.tail _ (List.Mem.tail _ (List.Mem.tail _ (List.Mem.tail _ (List.Mem.head _))))))
        have cz6 := H.cell (w3.heap.size) 6 (.int .i64 f) (List.Mem.tail _ (List.Mem.tail _ (List.Mem.tail _ (List.Mem.tail _ (List.Mem.tail _ (List.Mem.tail _ (List.Mem.head _)))))))
        have cz7 := H.cell (w3.heap.size) 7 (.int .i64 t) (List.Mem.tail _ (List.Mem.tail _ (List.Mem.tail _ (List.Mem.tail _ (List.Mem.tail _ (List.Mem.tail _ (List.Mem.tail _ (List.Mem.head _))))))))
        have lz := H.lt (w3.heap.size) 0 (.int .i64 2) (List.Mem.head _)
        go_wp2_with fail
        clear cz0 cz1 cz2 cz3 cz4 cz5 cz6 cz7 lz
        (with_reducible refine (rday12_is (n + j) e _ hD.out).mono ?_)
        rintro e2 w7 ⟨rfl, hb⟩
        replace H := H.below hb
        clear hb
        have cz0 := H.cell (w3.heap.size) 0 (.int .i64 2) (List.Mem.head _)
        have cz1 := H.cell (w3.heap.size) 1 (.int .i64 m) (List.Mem.tail _ (List.Mem.head _))
        have cz2 := H.cell (w3.heap.size) 2 (.int .i64 d) (List.Mem.tail _ (List.Mem.tail _ (List.Mem.head _)))
        have cz3 := H.cell (w3.heap.size) 3 (.int .i64 q) (List.Mem.tail _ (List.Mem.tail _ (List.Mem.tail _ (List.Mem.head _))))
        have cz4 := H.cell (w3.heap.size) 4 (.int .i64 o) (List.Mem.tail _ (List.Mem.tail _ (List.Mem.tail _ (List.Mem.tail _ (List.Mem.head _)))))
        have cz5 := H.cell (w3.heap.size) 5 (.int .i64 0) (List.Mem.tail _ (List.Mem.tail _ (List.Mem.tail _ (List.Mem.tail _ (List.Mem.tail _ (List.Mem.head _))))))
        have cz6 := H.cell (w3.heap.size) 6 (.int .i64 f) (List.Mem.tail _ (List.Mem.tail _ (List.Mem.tail _ (List.Mem.tail _ (List.Mem.tail _ (List.Mem.tail _ (List.Mem.head _)))))))
        have cz7 := H.cell (w3.heap.size) 7 (.int .i64 t) (List.Mem.tail _ (List.Mem.tail _ (List.Mem.tail _ (List.Mem.tail _ (List.Mem.tail _ (List.Mem.tail _ (List.Mem.tail _ (List.Mem.head _))))))))
        have lz := H.lt (w3.heap.size) 0 (.int .i64 2) (List.Mem.head _)
        cases e
        · go_wp2
          go_roundw
          case rel => exact ⟨j + 1, rfl, by omega, by omega, H⟩
          case measure => simp [intOf]; omega
        · go_wp2_with fail
          clear cz0 cz1 cz2 cz3 cz4 cz5 cz6 cz7 lz
          (with_reducible refine (K.is 2 m d q o 0 f t (n + j) false _ (H.factsU (List.Mem.tail _ (List.Mem.tail _ (List.Mem.tail _ (List.Mem.tail _ (List.Mem.tail _ (List.Mem.tail _ (List.Mem.tail _ (List.Mem.tail _ (List.Mem.tail _ (List.Mem.tail _ (List.Mem.tail _ (List.Mem.tail _ (List.Mem.tail _ (List.Mem.tail _ (List.Mem.tail _ (List.Mem.tail _ (List.Mem.tail _ (List.Mem.tail _ (List.Mem.tail _ (List.Mem.tail _ (List.Mem.tail _ (List.Mem.tail _ (List.Mem.tail _ (List.Mem.tail _ (List.Mem.tail _ (List.Mem.tail _ (List.Mem.tail _ (List.Mem.tail _ (List.Mem.tail _ (List.Mem.tail _ (List.Mem.tail _ (List.Mem.tail _ (List.Mem.head _)))))))))))))))))))))))))))))))))) MP.out ⟨fun c => absurd c (by decide), fun c => absurd c NI.out⟩).mono ?_)
          rintro e2 w8 ⟨rfl, hb⟩
          replace H := H.below hb
          clear hb
          have cz0 := H.cell (w3.heap.size) 0 (.int .i64 2) (List.Mem.head _)
          have cz1 := H.cell (w3.heap.size) 1 (.int .i64 m) (List.Mem.tail _ (List.Mem.head _))
          have cz2 := H.cell (w3.heap.size) 2 (.int .i64 d) (List.Mem.tail _ (List.Mem.tail _ (List.Mem.head _)))
          have cz3 := H.cell (w3.heap.size) 3 (.int .i64 q) (List.Mem.tail _ (List.Mem.tail _ (List.Mem.tail _ (List.Mem.head _))))
          have cz4 := H.cell (w3.heap.size) 4 (.int .i64 o) (List.Mem.tail _ (List.Mem.tail _ (List.Mem.tail _ (List.Mem.tail _ (List.Mem.head _)))))
          have cz5 := H.cell (w3.heap.size) 5 (.int .i64 0) (List.Mem.tail _ (List.Mem.tail _ (List.Mem.tail _ (List.Mem.tail _ (List.Mem.tail _ (List.Mem.head _))))))
          have cz6 := H.cell (w3.heap.size) 6 (.int .i64 f) (List.Mem.tail _ (List.Mem.tail _ (List.Mem.tail _ (List.Mem.tail _ (List.Mem.tail _ (List.Mem.tail _ (List.Mem.head _)))))))
          have cz7 := H.cell (w3.heap.size) 7 (.int .i64 t) (List.Mem.tail _ (List.Mem.tail _ (List.Mem.tail _ (List.Mem.tail _ (List.Mem.tail _ (List.Mem.tail _ (List.Mem.tail _ (List.Mem.head _))))))))
          have lz := H.lt (w3.heap.size) 0 (.int .i64 2) (List.Mem.head _)
          go_wp2
          go_roundw
          case rel => exact ⟨j + 1, rfl, by omega, by omega, H⟩
          case measure => simp [intOf]; omega
    · have e : j = 21 := by omega
      subst e
      have cz0 := H.cell (w3.heap.size) 0 (.int .i64 2) (List.Mem.head _)
      have cz1 := H.cell (w3.heap.size) 1 (.int .i64 m) (List.Mem.tail _ (List.Mem.head _))
      have cz2 := H.cell (w3.heap.size) 2 (.int .i64 d) (List.Mem.tail _ (List.Mem.tail _ (List.Mem.head _)))
      have cz3 := H.cell (w3.heap.size) 3 (.int .i64 q) (List.Mem.tail _ (List.Mem.tail _ (List.Mem.tail _ (List.Mem.head _))))
      have cz4 := H.cell (w3.heap.size) 4 (.int .i64 o) (List.Mem.tail _ (List.Mem.tail _ (List.Mem.tail _ (List.Mem.tail _ (List.Mem.head _)))))
      have cz5 := H.cell (w3.heap.size) 5 (.int .i64 0) (List.Mem.tail _ (List.Mem.tail _ (List.Mem.tail _ (List.Mem.tail _ (List.Mem.tail _ (List.Mem.head _))))))
      have cz6 := H.cell (w3.heap.size) 6 (.int .i64 f) (List.Mem.tail _ (List.Mem.tail _ (List.Mem.tail _ (List.Mem.tail _ (List.Mem.tail _ (List.Mem.tail _ (List.Mem.head _)))))))
      have cz7 := H.cell (w3.heap.size) 7 (.int .i64 t) (List.Mem.tail _ (List.Mem.tail _ (List.Mem.tail _ (List.Mem.tail _ (List.Mem.tail _ (List.Mem.tail _ (List.Mem.tail _ (List.Mem.head _))))))))
      have lz := H.lt (w3.heap.size) 0 (.int .i64 2) (List.Mem.head _)
      go_wp2_with fail
      clear cz0 cz1 cz2 cz3 cz4 cz5 cz6 cz7 lz
      (with_reducible refine (K.is 2 m d q o 0 f t n true _ (H.factsU (List.Mem.tail _ (List.Mem.tail _ (List.Mem.tail _ (List.Mem.tail _ (List.Mem.tail _ (List.Mem.tail _ (List.Mem.tail _ (List.Mem.tail _ (List.Mem.tail _ (List.Mem.tail _ (List.Mem.tail _ (List.Mem.tail _ (List.Mem.tail _ (List.Mem.tail _ (List.Mem.tail _ (List.Mem.tail _ (List.Mem.tail _ (List.Mem.tail _ (List.Mem.tail _ (List.Mem.tail _ (List.Mem.tail _ (List.Mem.tail _ (List.Mem.tail _ (List.Mem.tail _ (List.Mem.tail _ (List.Mem.tail _ (List.Mem.tail _ (List.Mem.tail _ (List.Mem.tail _ (List.Mem.tail _ (List.Mem.tail _ (List.Mem.tail _ (List.Mem.head _)))))))))))))))))))))))))))))))))) MP.out ⟨fun _ => HI.out, fun _ => rfl⟩).mono ?_)
      rintro e2 w8 ⟨rfl, hb⟩
      replace H := H.below hb
      clear hb
      go_wp2
      go_ret
      exact ⟨rfl, H.old⟩

set_option maxHeartbeats 8000000 in
set_option maxRecDepth 100000 in
theorem rumany_leapt (K : RWay) (k m d q o s f t i y n : Int) (w : World) (hL : FactsU w) (bi : 0 ≤ i ∧ i < 65536) (hk0 : k = 0) (hm1 : m = 2) (hd2 : d = 29)  (h : Ru.mb ⟨k, m, d, q, o, s, f, t⟩ = true) (hM : Ru.May ⟨k, m, d, q, o, s, f, t⟩) (ft : 1 ≤ f ∧ f ≤ t ∧ t ≤ 9999) (hw : wrap64 (f + i % (t - f + 1)) = y) (ha : Ru.bas ⟨k, m, d, q, o, s, f, t⟩ y = n) (hab : decide (0 < n) = true) (hl : lp y = true) (hP : Ru.May ⟨k, m, d, q, o, 0, f, t⟩) (hI : Ru.Is ⟨k, m, d, q, o, 0, f, t⟩ n) (hX : ∀ j, -20 ≤ j → j ≤ 20 → j ≠ 0 → ¬ Ru.Is ⟨k, m, d, q, o, 0, f, t⟩ (n + j)) (nb : 1 ≤ n ∧ n ≤ 3652059) :
    Calls Tryd.prog 6 #[.agg #[.int .i64 k, .int .i64 m, .int .i64 d, .int .i64 q, .int .i64 o, .int .i64 s, .int .i64 f, .int .i64 t], .int .u16 i] w fun e w' => e = .returned (.bool true) ∧ Below w.heap.size w w' := by
  have H := (Held.start w).add (f := factsUF) hL
  clear hL
  have HM := Lib.hid h
  have MM := Lib.hid hM
  have HW := Lib.hid hw
  have HA := Lib.hid ha
  have AB := Lib.hid hab
  have HL := Lib.hid hl
  have MP := Lib.hid hP
  have HI := Lib.hid hI
  have HX := Lib.hid hX
  clear h hM hw ha hab hl hP hI hX
  subst hk0
  subst hm1
  subst hd2
  go_enter Tryd.func6, Tryd.ntmps6
  go_wp2_with fail
  replace H := (H.oct (w.heap.size) (.int .i64 0) (.int .i64 2) (.int .i64 29) (.int .i64 q) (.int .i64 o) (.int .i64 s) (.int .i64 f) (.int .i64 t) 23 rfl)
  (with_reducible refine (rushown_any K _ (H.factsU (List.Mem.tail _ (List.Mem.tail _ (List.Mem.tail _ (List.Mem.tail _ (List.Mem.tail _ (List.Mem.tail _ (List.Mem.tail _ (List.Mem.tail _ (List.Mem.tail _ (List.Mem.tail _ (List.Mem.tail _ (List.Mem.tail _ (List.Mem.tail _ (List.Mem.tail _ (List.Mem.tail _ (List.Mem.tail _ (List.Mem.head _))))))))))))))))))).mono ?_)
  rintro e w1 ⟨rfl, hb⟩
  replace H := H.below hb
  clear hb
  have cr0 := H.cell (w.heap.size) 0 (.int .i64 0) (List.Mem.head _)
  have cr1 := H.cell (w.heap.size) 1 (.int .i64 2) (List.Mem.tail _ (List.Mem.head _))
  have cr2 := H.cell (w.heap.size) 2 (.int .i64 29) (List.Mem.tail _ (List.Mem.tail _ (List.Mem.head _)))
  have cr3 := H.cell (w.heap.size) 3 (.int .i64 q) (List.Mem.tail _ (List.Mem.tail _ (List.Mem.tail _ (List.Mem.head _))))
  have cr4 := H.cell (w.heap.size) 4 (.int .i64 o) (List.Mem.tail _ (List.Mem.tail _ (List.Mem.tail _ (List.Mem.tail _ (List.Mem.head _)))))
  have cr5 := H.cell (w.heap.size) 5 (.int .i64 s) (List.Mem.tail _ (List.Mem.tail _ (List.Mem.tail _ (List.Mem.tail _ (List.Mem.tail _ (List.Mem.head _))))))
  have cr6 := H.cell (w.heap.size) 6 (.int .i64 f) (List.Mem.tail _ (List.Mem.tail _ (List.Mem.tail _ (List.Mem.tail _ (List.Mem.tail _ (List.Mem.tail _ (List.Mem.head _)))))))
  have cr7 := H.cell (w.heap.size) 7 (.int .i64 t) (List.Mem.tail _ (List.Mem.tail _ (List.Mem.tail _ (List.Mem.tail _ (List.Mem.tail _ (List.Mem.tail _ (List.Mem.tail _ (List.Mem.head _))))))))
  have lr := H.lt (w.heap.size) 0 (.int .i64 0) (List.Mem.head _)
  go_wp2_with fail
  clear cr0 cr1 cr2 cr3 cr4 cr5 cr6 cr7 lr
  (with_reducible refine (rumay_any 0 2 29 q o s f t true _ HM.out).mono ?_)
  rintro e w2 ⟨rfl, hb⟩
  replace H := H.below hb
  clear hb
  have cr0 := H.cell (w.heap.size) 0 (.int .i64 0) (List.Mem.head _)
  have cr1 := H.cell (w.heap.size) 1 (.int .i64 2) (List.Mem.tail _ (List.Mem.head _))
  have cr2 := H.cell (w.heap.size) 2 (.int .i64 29) (List.Mem.tail _ (List.Mem.tail _ (List.Mem.head _)))
  have cr3 := H.cell (w.heap.size) 3 (.int .i64 q) (List.Mem.tail _ (List.Mem.tail _ (List.Mem.tail _ (List.Mem.head _))))
  have cr4 := H.cell (w.heap.size) 4 (.int .i64 o) (List.Mem.tail _ (List.Mem.tail _ (List.Mem.tail _ (List.Mem.tail _ (List.Mem.head _)))))
  have cr5 := H.cell (w.heap.size) 5 (.int .i64 s) (List.Mem.tail _ (List.Mem.tail _ (List.Mem.tail _ (List.Mem.tail _ (List.Mem.tail _ (List.Mem.head _))))))
  have cr6 := H.cell (w.heap.size) 6 (.int .i64 f) (List.Mem.tail _ (List.Mem.tail _ (List.Mem.tail _ (List.Mem.tail _ (List.Mem.tail _ (List.Mem.tail _ (List.Mem.head _)))))))
  have cr7 := H.cell (w.heap.size) 7 (.int .i64 t) (List.Mem.tail _ (List.Mem.tail _ (List.Mem.tail _ (List.Mem.tail _ (List.Mem.tail _ (List.Mem.tail _ (List.Mem.tail _ (List.Mem.head _))))))))
  have lr := H.lt (w.heap.size) 0 (.int .i64 0) (List.Mem.head _)
  go_wp2_with fail
  clear cr0 cr1 cr2 cr3 cr4 cr5 cr6 cr7 lr
  have cr0 := H.cell (w.heap.size) 0 (.int .i64 0) (List.Mem.head _)
  have cr1 := H.cell (w.heap.size) 1 (.int .i64 2) (List.Mem.tail _ (List.Mem.head _))
  have cr2 := H.cell (w.heap.size) 2 (.int .i64 29) (List.Mem.tail _ (List.Mem.tail _ (List.Mem.head _)))
  have cr3 := H.cell (w.heap.size) 3 (.int .i64 q) (List.Mem.tail _ (List.Mem.tail _ (List.Mem.tail _ (List.Mem.head _))))
  have cr4 := H.cell (w.heap.size) 4 (.int .i64 o) (List.Mem.tail _ (List.Mem.tail _ (List.Mem.tail _ (List.Mem.tail _ (List.Mem.head _)))))
  have cr5 := H.cell (w.heap.size) 5 (.int .i64 s) (List.Mem.tail _ (List.Mem.tail _ (List.Mem.tail _ (List.Mem.tail _ (List.Mem.tail _ (List.Mem.head _))))))
  have cr6 := H.cell (w.heap.size) 6 (.int .i64 f) (List.Mem.tail _ (List.Mem.tail _ (List.Mem.tail _ (List.Mem.tail _ (List.Mem.tail _ (List.Mem.tail _ (List.Mem.head _)))))))
  have cr7 := H.cell (w.heap.size) 7 (.int .i64 t) (List.Mem.tail _ (List.Mem.tail _ (List.Mem.tail _ (List.Mem.tail _ (List.Mem.tail _ (List.Mem.tail _ (List.Mem.tail _ (List.Mem.head _))))))))
  have lr := H.lt (w.heap.size) 0 (.int .i64 0) (List.Mem.head _)
  go_quiet (fail)
  go_wp2_with fail
  clear cr0 cr1 cr2 cr3 cr4 cr5 cr6 cr7 lr
  replace H := H.drewN nq
  rw [HW.out]
  (with_reducible refine (K.base 0 2 29 q o s f t y n true _ (H.factsU (List.Mem.tail _ (List.Mem.tail _ (List.Mem.tail _ (List.Mem.tail _ (List.Mem.tail _ (List.Mem.tail _ (List.Mem.tail _ (List.Mem.tail _ (List.Mem.tail _ (List.Mem.tail _ (List.Mem.tail _ (List.Mem.tail _ (List.Mem.tail _ (List.Mem.tail _ (List.Mem.tail _ (List.Mem.tail _ (List.Mem.head _)))))))))))))))))) MM.out HA.out AB.out).mono ?_)
  rintro e w3 ⟨rfl, hb⟩
  replace H := H.below hb
  clear hb
  have cr0 := H.cell (w.heap.size) 0 (.int .i64 0) (List.Mem.head _)
  have cr1 := H.cell (w.heap.size) 1 (.int .i64 2) (List.Mem.tail _ (List.Mem.head _))
  have cr2 := H.cell (w.heap.size) 2 (.int .i64 29) (List.Mem.tail _ (List.Mem.tail _ (List.Mem.head _)))
  have cr3 := H.cell (w.heap.size) 3 (.int .i64 q) (List.Mem.tail _ (List.Mem.tail _ (List.Mem.tail _ (List.Mem.head _))))
  have cr4 := H.cell (w.heap.size) 4 (.int .i64 o) (List.Mem.tail _ (List.Mem.tail _ (List.Mem.tail _ (List.Mem.tail _ (List.Mem.head _)))))
  have cr5 := H.cell (w.heap.size) 5 (.int .i64 s) (List.Mem.tail _ (List.Mem.tail _ (List.Mem.tail _ (List.Mem.tail _ (List.Mem.tail _ (List.Mem.head _))))))
  have cr6 := H.cell (w.heap.size) 6 (.int .i64 f) (List.Mem.tail _ (List.Mem.tail _ (List.Mem.tail _ (List.Mem.tail _ (List.Mem.tail _ (List.Mem.tail _ (List.Mem.head _)))))))
  have cr7 := H.cell (w.heap.size) 7 (.int .i64 t) (List.Mem.tail _ (List.Mem.tail _ (List.Mem.tail _ (List.Mem.tail _ (List.Mem.tail _ (List.Mem.tail _ (List.Mem.tail _ (List.Mem.head _))))))))
  have lr := H.lt (w.heap.size) 0 (.int .i64 0) (List.Mem.head _)
  go_wp2_with fail
  clear cr0 cr1 cr2 cr3 cr4 cr5 cr6 cr7 lr
  (with_reducible refine (rleap_is y true _ HL.out).mono ?_)
  rintro e w4 ⟨rfl, hb⟩
  replace H := H.below hb
  clear hb
  have cr0 := H.cell (w.heap.size) 0 (.int .i64 0) (List.Mem.head _)
  have cr1 := H.cell (w.heap.size) 1 (.int .i64 2) (List.Mem.tail _ (List.Mem.head _))
  have cr2 := H.cell (w.heap.size) 2 (.int .i64 29) (List.Mem.tail _ (List.Mem.tail _ (List.Mem.head _)))
  have cr3 := H.cell (w.heap.size) 3 (.int .i64 q) (List.Mem.tail _ (List.Mem.tail _ (List.Mem.tail _ (List.Mem.head _))))
  have cr4 := H.cell (w.heap.size) 4 (.int .i64 o) (List.Mem.tail _ (List.Mem.tail _ (List.Mem.tail _ (List.Mem.tail _ (List.Mem.head _)))))
  have cr5 := H.cell (w.heap.size) 5 (.int .i64 s) (List.Mem.tail _ (List.Mem.tail _ (List.Mem.tail _ (List.Mem.tail _ (List.Mem.tail _ (List.Mem.head _))))))
  have cr6 := H.cell (w.heap.size) 6 (.int .i64 f) (List.Mem.tail _ (List.Mem.tail _ (List.Mem.tail _ (List.Mem.tail _ (List.Mem.tail _ (List.Mem.tail _ (List.Mem.head _)))))))
  have cr7 := H.cell (w.heap.size) 7 (.int .i64 t) (List.Mem.tail _ (List.Mem.tail _ (List.Mem.tail _ (List.Mem.tail _ (List.Mem.tail _ (List.Mem.tail _ (List.Mem.tail _ (List.Mem.head _))))))))
  have lr := H.lt (w.heap.size) 0 (.int .i64 0) (List.Mem.head _)
  go_wp2_with fail
  clear cr0 cr1 cr2 cr3 cr4 cr5 cr6 cr7 lr
  replace H := (H.oct (w4.heap.size) (.int .i64 0) (.int .i64 2) (.int .i64 29) (.int .i64 q) (.int .i64 o) (.int .i64 0) (.int .i64 f) (.int .i64 t) 23 rfl)
  go_loopw [11] (fun u W' => ∃ j : Int, u = .int .i64 j ∧ -20 ≤ j ∧ j ≤ 21 ∧ Held w [.cell (w4.heap.size) 0 (.int .i64 0), .cell (w4.heap.size) 1 (.int .i64 2), .cell (w4.heap.size) 2 (.int .i64 29), .cell (w4.heap.size) 3 (.int .i64 q), .cell (w4.heap.size) 4 (.int .i64 o), .cell (w4.heap.size) 5 (.int .i64 0), .cell (w4.heap.size) 6 (.int .i64 f), .cell (w4.heap.size) 7 (.int .i64 t), .free (w4.heap.size) 0, .free (w4.heap.size) 1, .free (w4.heap.size) 2, .free (w4.heap.size) 3, .free (w4.heap.size) 4, .free (w4.heap.size) 5, .free (w4.heap.size) 6, .free (w4.heap.size) 7, .cell (w.heap.size) 0 (.int .i64 0), .cell (w.heap.size) 1 (.int .i64 2), .cell (w.heap.size) 2 (.int .i64 29), .cell (w.heap.size) 3 (.int .i64 q), .cell (w.heap.size) 4 (.int .i64 o), .cell (w.heap.size) 5 (.int .i64 s), .cell (w.heap.size) 6 (.int .i64 f), .cell (w.heap.size) 7 (.int .i64 t), .free (w.heap.size) 0, .free (w.heap.size) 1, .free (w.heap.size) 2, .free (w.heap.size) 3, .free (w.heap.size) 4, .free (w.heap.size) 5, .free (w.heap.size) 6, .free (w.heap.size) 7, factsUF] W') (fun u _ => (21 - intOf u).toNat)
  case atStart => exact ⟨-20, rfl, by omega, by omega, H⟩
  case round =>
    clear H
    obtain ⟨j, rfl, j1, j2, H⟩ := hrel
    by_cases hj : j ≤ 20
    · by_cases j0 : j = 0
      · subst j0
        have cz0 := H.cell (w4.heap.size) 0 (.int .i64 0) (List.Mem.head _)
        have cz1 := H.cell (w4.heap.size) 1 (.int .i64 2) (List.Mem.tail _ (List.Mem.head _))
        have cz2 := H.cell (w4.heap.size) 2 (.int .i64 29) (List.Mem.tail _ (List.Mem.tail _ (List.Mem.head _)))
        have cz3 := H.cell (w4.heap.size) 3 (.int .i64 q) (List.Mem.tail _ (List.Mem.tail _ (List.Mem.tail _ (List.Mem.head _))))
        have cz4 := H.cell (w4.heap.size) 4 (.int .i64 o) (List.Mem.tail _ (List.Mem.tail _ (List.Mem.tail _ (List.Mem.tail _ (List.Mem.head _)))))
        have cz5 := H.cell (w4.heap.size) 5 (.int .i64 0) (List.Mem.tail _ (List.Mem.tail _ (List.Mem.tail _ (List.Mem.tail _ (List.Mem.tail _ (List.Mem.head _))))))
        have cz6 := H.cell (w4.heap.size) 6 (.int .i64 f) (List.Mem.tail _ (List.Mem.tail _ (List.Mem.tail _ (List.Mem.tail _ (List.Mem.tail _ (List.Mem.tail _ (List.Mem.head _)))))))
        have cz7 := H.cell (w4.heap.size) 7 (.int .i64 t) (List.Mem.tail _ (List.Mem.tail _ (List.Mem.tail _ (List.Mem.tail _ (List.Mem.tail _ (List.Mem.tail _ (List.Mem.tail _ (List.Mem.head _))))))))
        have lz := H.lt (w4.heap.size) 0 (.int .i64 0) (List.Mem.head _)
        go_wp2
        go_roundw
        case rel => exact ⟨0 + 1, rfl, by omega, by omega, H⟩
        case measure => simp [intOf]
      · have jz : (j != 0) = true := by simpa using j0
        have NI := Lib.hid (HX.out j j1 hj j0)
        clear j0
        obtain ⟨e, hD⟩ : ∃ e, Hid (decide (1 ≤ n + j ∧ n + j ≤ 3652059) = e) := ⟨_, Lib.hid rfl⟩
        have cz0 := H.cell (w4.heap.size) 0 (.int .i64 0) (List.Mem.head _)
        have cz1 := H.cell (w4.heap.size) 1 (.int .i64 2) (List.Mem.tail _ (List.Mem.head _))
        have cz2 := H.cell (w4.heap.size) 2 (.int .i64 29) (List.Mem.tail _ (List.Mem.tail _ (List.Mem.head _)))
        have cz3 := H.cell (w4.heap.size) 3 (.int .i64 q) (List.Mem.tail _ (List.Mem.tail _ (List.Mem.tail _ (List.Mem.head _))))
        have cz4 := H.cell (w4.heap.size) 4 (.int .i64 o) (List.Mem.tail _ (List.Mem.tail _ (List.Mem.tail _ (List.Mem.tail _ (List.Mem.head _)))))
        have cz5 := H.cell (w4.heap.size) 5 (.int .i64 0) (List.Mem.tail _ (List.Mem.tail _ (List.Mem.tail _ (List.Mem.tail _ (List.Mem.tail _ (List.Mem.head _))))))
        have cz6 := H.cell (w4.heap.size) 6 (.int .i64 f) (List.Mem.tail _ (List.Mem.tail _ (List.Mem.tail _ (List.Mem.tail _ (List.Mem.tail _ (List.Mem.tail _ (List.Mem.head _)))))))
        have cz7 := H.cell (w4.heap.size) 7 (.int .i64 t) (List.Mem.tail _ (List.Mem.tail _ (List.Mem.tail _ (List.Mem.tail _ (List.Mem.tail _ (List.Mem.tail _ (List.Mem.tail _ (List.Mem.head _))))))))
        have lz := H.lt (w4.heap.size) 0 (.int .i64 0) (List.Mem.head _)
        go_wp2_with fail
        clear cz0 cz1 cz2 cz3 cz4 cz5 cz6 cz7 lz
        (with_reducible refine (rday12_is (n + j) e _ hD.out).mono ?_)
        rintro e2 w7 ⟨rfl, hb⟩
        replace H := H.below hb
        clear hb
        have cz0 := H.cell (w4.heap.size) 0 (.int .i64 0) (List.Mem.head _)
        have cz1 := H.cell (w4.heap.size) 1 (.int .i64 2) (List.Mem.tail _ (List.Mem.head _))
        have cz2 := H.cell (w4.heap.size) 2 (.int .i64 29) (List.Mem.tail _ (List.Mem.tail _ (List.Mem.head _)))
        have cz3 := H.cell (w4.heap.size) 3 (.int .i64 q) (List.Mem.tail _ (List.Mem.tail _ (List.Mem.tail _ (List.Mem.head _))))
        have cz4 := H.cell (w4.heap.size) 4 (.int .i64 o) (List.Mem.tail _ (List.Mem.tail _ (List.Mem.tail _ (List.Mem.tail _ (List.Mem.head _)))))
        have cz5 := H.cell (w4.heap.size) 5 (.int .i64 0) (List.Mem.tail _ (List.Mem.tail _ (List.Mem.tail _ (List.Mem.tail _ (List.Mem.tail _ (List.Mem.head _))))))
        have cz6 := H.cell (w4.heap.size) 6 (.int .i64 f) (List.Mem.tail _ (List.Mem.tail _ (List.Mem.tail _ (List.Mem.tail _ (List.Mem.tail _ (List.Mem.tail _ (List.Mem.head _)))))))
        have cz7 := H.cell (w4.heap.size) 7 (.int .i64 t) (List.Mem.tail _ (List.Mem.tail _ (List.Mem.tail _ (List.Mem.tail _ (List.Mem.tail _ (List.Mem.tail _ (List.Mem.tail _ (List.Mem.head _))))))))
        have lz := H.lt (w4.heap.size) 0 (.int .i64 0) (List.Mem.head _)
        cases e
        · go_wp2
          go_roundw
          case rel => exact ⟨j + 1, rfl, by omega, by omega, H⟩
          case measure => simp [intOf]; omega
        · go_wp2_with fail
          clear cz0 cz1 cz2 cz3 cz4 cz5 cz6 cz7 lz
          (with_reducible refine (K.is 0 2 29 q o 0 f t (n + j) false _ (H.factsU (List.Mem.tail _ (List.Mem.tail _ (List.Mem.tail _ (List.Mem.tail _ (List.Mem.tail _ (List.Mem.tail _ (List.Mem.tail _ (List.Mem.tail _ (List.Mem.tail _ (List.Mem.tail _ (List.Mem.tail _ (List.Mem.tail _ (List.Mem.tail _ (List.Mem.tail _ (List.Mem.tail _ (List.Mem.tail _ (List.Mem.tail _ (List.Mem.tail _ (List.Mem.tail _ (List.Mem.tail _ (List.Mem.tail _ (List.Mem.tail _ (List.Mem.tail _ (List.Mem.tail _ (List.Mem.tail _ (List.Mem.tail _ (List.Mem.tail _ (List.Mem.tail _ (List.Mem.tail _ (List.Mem.tail _ (List.Mem.tail _ (List.Mem.tail _ (List.Mem.head _)))))))))))))))))))))))))))))))))) MP.out ⟨fun c => absurd c (by decide), fun c => absurd c NI.out⟩).mono ?_)
          rintro e2 w8 ⟨rfl, hb⟩
          replace H := H.below hb
          clear hb
          have cz0 := H.cell (w4.heap.size) 0 (.int .i64 0) (List.Mem.head _)
          have cz1 := H.cell (w4.heap.size) 1 (.int .i64 2) (List.Mem.tail _ (List.Mem.head _))
          have cz2 := H.cell (w4.heap.size) 2 (.int .i64 29) (List.Mem.tail _ (List.Mem.tail _ (List.Mem.head _)))
          have cz3 := H.cell (w4.heap.size) 3 (.int .i64 q) (List.Mem.tail _ (List.Mem.tail _ (List.Mem.tail _ (List.Mem.head _))))
          have cz4 := H.cell (w4.heap.size) 4 (.int .i64 o) (List.Mem.tail _ (List.Mem.tail _ (List.Mem.tail _ (List.Mem.tail _ (List.Mem.head _)))))
          have cz5 := H.cell (w4.heap.size) 5 (.int .i64 0) (List.Mem.tail _ (List.Mem.tail _ (List.Mem.tail _ (List.Mem.tail _ (List.Mem.tail _ (List.Mem.head _))))))
          have cz6 := H.cell (w4.heap.size) 6 (.int .i64 f) (List.Mem.tail _ (List.Mem.tail _ (List.Mem.tail _ (List.Mem.tail _ (List.Mem.tail _ (List.Mem.tail _ (List.Mem.head _)))))))
          have cz7 := H.cell (w4.heap.size) 7 (.int .i64 t) (List.Mem.tail _ (List.Mem.tail _ (List.Mem.tail _ (List.Mem.tail _ (List.Mem.tail _ (List.Mem.tail _ (List.Mem.tail _ (List.Mem.head _))))))))
          have lz := H.lt (w4.heap.size) 0 (.int .i64 0) (List.Mem.head _)
          go_wp2
          go_roundw
          case rel => exact ⟨j + 1, rfl, by omega, by omega, H⟩
          case measure => simp [intOf]; omega
    · have e : j = 21 := by omega
      subst e
      have cz0 := H.cell (w4.heap.size) 0 (.int .i64 0) (List.Mem.head _)
      have cz1 := H.cell (w4.heap.size) 1 (.int .i64 2) (List.Mem.tail _ (List.Mem.head _))
      have cz2 := H.cell (w4.heap.size) 2 (.int .i64 29) (List.Mem.tail _ (List.Mem.tail _ (List.Mem.head _)))
      have cz3 := H.cell (w4.heap.size) 3 (.int .i64 q) (List.Mem.tail _ (List.Mem.tail _ (List.Mem.tail _ (List.Mem.head _))))
      have cz4 := H.cell (w4.heap.size) 4 (.int .i64 o) (List.Mem.tail _ (List.Mem.tail _ (List.Mem.tail _ (List.Mem.tail _ (List.Mem.head _)))))
      have cz5 := H.cell (w4.heap.size) 5 (.int .i64 0) (List.Mem.tail _ (List.Mem.tail _ (List.Mem.tail _ (List.Mem.tail _ (List.Mem.tail _ (List.Mem.head _))))))
      have cz6 := H.cell (w4.heap.size) 6 (.int .i64 f) (List.Mem.tail _ (List.Mem.tail _ (List.Mem.tail _ (List.Mem.tail _ (List.Mem.tail _ (List.Mem.tail _ (List.Mem.head _)))))))
      have cz7 := H.cell (w4.heap.size) 7 (.int .i64 t) (List.Mem.tail _ (List.Mem.tail _ (List.Mem.tail _ (List.Mem.tail _ (List.Mem.tail _ (List.Mem.tail _ (List.Mem.tail _ (List.Mem.head _))))))))
      have lz := H.lt (w4.heap.size) 0 (.int .i64 0) (List.Mem.head _)
      go_wp2_with fail
      clear cz0 cz1 cz2 cz3 cz4 cz5 cz6 cz7 lz
      (with_reducible refine (K.is 0 2 29 q o 0 f t n true _ (H.factsU (List.Mem.tail _ (List.Mem.tail _ (List.Mem.tail _ (List.Mem.tail _ (List.Mem.tail _ (List.Mem.tail _ (List.Mem.tail _ (List.Mem.tail _ (List.Mem.tail _ (List.Mem.tail _ (List.Mem.tail _ (List.Mem.tail _ (List.Mem.tail _ (List.Mem.tail _ (List.Mem.tail _ (List.Mem.tail _ (List.Mem.tail _ (List.Mem.tail _ (List.Mem.tail _ (List.Mem.tail _ (List.Mem.tail _ (List.Mem.tail _ (List.Mem.tail _ (List.Mem.tail _ (List.Mem.tail _ (List.Mem.tail _ (List.Mem.tail _ (List.Mem.tail _ (List.Mem.tail _ (List.Mem.tail _ (List.Mem.tail _ (List.Mem.tail _ (List.Mem.head _)))))))))))))))))))))))))))))))))) MP.out ⟨fun _ => HI.out, fun _ => rfl⟩).mono ?_)
      rintro e2 w8 ⟨rfl, hb⟩
      replace H := H.below hb
      clear hb
      go_wp2
      go_ret
      exact ⟨rfl, H.old⟩

set_option maxHeartbeats 8000000 in
set_option maxRecDepth 100000 in
theorem rumany_leapf (K : RWay) (k m d q o s f t i y n : Int) (w : World) (hL : FactsU w) (bi : 0 ≤ i ∧ i < 65536) (hk0 : k = 0) (hm1 : m = 2) (hd2 : d = 29)  (h : Ru.mb ⟨k, m, d, q, o, s, f, t⟩ = true) (hM : Ru.May ⟨k, m, d, q, o, s, f, t⟩) (ft : 1 ≤ f ∧ f ≤ t ∧ t ≤ 9999) (hw : wrap64 (f + i % (t - f + 1)) = y) (ha : Ru.bas ⟨k, m, d, q, o, s, f, t⟩ y = n) (hab : decide (0 < n) = false) (hl : lp y = false) :
    Calls Tryd.prog 6 #[.agg #[.int .i64 k, .int .i64 m, .int .i64 d, .int .i64 q, .int .i64 o, .int .i64 s, .int .i64 f, .int .i64 t], .int .u16 i] w fun e w' => e = .returned (.bool true) ∧ Below w.heap.size w w' := by
  have H := (Held.start w).add (f := factsUF) hL
  clear hL
  have HM := Lib.hid h
  have MM := Lib.hid hM
  have HW := Lib.hid hw
  have HA := Lib.hid ha
  have AB := Lib.hid hab
  have HL := Lib.hid hl
  clear h hM hw ha hab hl
  subst hk0
  subst hm1
  subst hd2
  go_enter Tryd.func6, Tryd.ntmps6
  go_wp2_with fail
  replace H := (H.oct (w.heap.size) (.int .i64 0) (.int .i64 2) (.int .i64 29) (.int .i64 q) (.int .i64 o) (.int .i64 s) (.int .i64 f) (.int .i64 t) 23 rfl)
  (with_reducible refine (rushown_any K _ (H.factsU (List.Mem.tail _ (List.Mem.tail _ (List.Mem.tail _ (List.Mem.tail _ (List.Mem.tail _ (List.Mem.tail _ (List.Mem.tail _ (List.Mem.tail _ (List.Mem.tail _ (List.Mem.tail _ (List.Mem.tail _ (List.Mem.tail _ (List.Mem.tail _ (List.Mem.tail _ (List.Mem.tail _ (List.Mem.tail _ (List.Mem.head _))))))))))))))))))).mono ?_)
  rintro e w1 ⟨rfl, hb⟩
  replace H := H.below hb
  clear hb
  have cr0 := H.cell (w.heap.size) 0 (.int .i64 0) (List.Mem.head _)
  have cr1 := H.cell (w.heap.size) 1 (.int .i64 2) (List.Mem.tail _ (List.Mem.head _))
  have cr2 := H.cell (w.heap.size) 2 (.int .i64 29) (List.Mem.tail _ (List.Mem.tail _ (List.Mem.head _)))
  have cr3 := H.cell (w.heap.size) 3 (.int .i64 q) (List.Mem.tail _ (List.Mem.tail _ (List.Mem.tail _ (List.Mem.head _))))
  have cr4 := H.cell (w.heap.size) 4 (.int .i64 o) (List.Mem.tail _ (List.Mem.tail _ (List.Mem.tail _ (List.Mem.tail _ (List.Mem.head _)))))
  have cr5 := H.cell (w.heap.size) 5 (.int .i64 s) (List.Mem.tail _ (List.Mem.tail _ (List.Mem.tail _ (List.Mem.tail _ (List.Mem.tail _ (List.Mem.head _))))))
  have cr6 := H.cell (w.heap.size) 6 (.int .i64 f) (List.Mem.tail _ (List.Mem.tail _ (List.Mem.tail _ (List.Mem.tail _ (List.Mem.tail _ (List.Mem.tail _ (List.Mem.head _)))))))
  have cr7 := H.cell (w.heap.size) 7 (.int .i64 t) (List.Mem.tail _ (List.Mem.tail _ (List.Mem.tail _ (List.Mem.tail _ (List.Mem.tail _ (List.Mem.tail _ (List.Mem.tail _ (List.Mem.head _))))))))
  have lr := H.lt (w.heap.size) 0 (.int .i64 0) (List.Mem.head _)
  go_wp2_with fail
  clear cr0 cr1 cr2 cr3 cr4 cr5 cr6 cr7 lr
  (with_reducible refine (rumay_any 0 2 29 q o s f t true _ HM.out).mono ?_)
  rintro e w2 ⟨rfl, hb⟩
  replace H := H.below hb
  clear hb
  have cr0 := H.cell (w.heap.size) 0 (.int .i64 0) (List.Mem.head _)
  have cr1 := H.cell (w.heap.size) 1 (.int .i64 2) (List.Mem.tail _ (List.Mem.head _))
  have cr2 := H.cell (w.heap.size) 2 (.int .i64 29) (List.Mem.tail _ (List.Mem.tail _ (List.Mem.head _)))
  have cr3 := H.cell (w.heap.size) 3 (.int .i64 q) (List.Mem.tail _ (List.Mem.tail _ (List.Mem.tail _ (List.Mem.head _))))
  have cr4 := H.cell (w.heap.size) 4 (.int .i64 o) (List.Mem.tail _ (List.Mem.tail _ (List.Mem.tail _ (List.Mem.tail _ (List.Mem.head _)))))
  have cr5 := H.cell (w.heap.size) 5 (.int .i64 s) (List.Mem.tail _ (List.Mem.tail _ (List.Mem.tail _ (List.Mem.tail _ (List.Mem.tail _ (List.Mem.head _))))))
  have cr6 := H.cell (w.heap.size) 6 (.int .i64 f) (List.Mem.tail _ (List.Mem.tail _ (List.Mem.tail _ (List.Mem.tail _ (List.Mem.tail _ (List.Mem.tail _ (List.Mem.head _)))))))
  have cr7 := H.cell (w.heap.size) 7 (.int .i64 t) (List.Mem.tail _ (List.Mem.tail _ (List.Mem.tail _ (List.Mem.tail _ (List.Mem.tail _ (List.Mem.tail _ (List.Mem.tail _ (List.Mem.head _))))))))
  have lr := H.lt (w.heap.size) 0 (.int .i64 0) (List.Mem.head _)
  go_wp2_with fail
  clear cr0 cr1 cr2 cr3 cr4 cr5 cr6 cr7 lr
  have cr0 := H.cell (w.heap.size) 0 (.int .i64 0) (List.Mem.head _)
  have cr1 := H.cell (w.heap.size) 1 (.int .i64 2) (List.Mem.tail _ (List.Mem.head _))
  have cr2 := H.cell (w.heap.size) 2 (.int .i64 29) (List.Mem.tail _ (List.Mem.tail _ (List.Mem.head _)))
  have cr3 := H.cell (w.heap.size) 3 (.int .i64 q) (List.Mem.tail _ (List.Mem.tail _ (List.Mem.tail _ (List.Mem.head _))))
  have cr4 := H.cell (w.heap.size) 4 (.int .i64 o) (List.Mem.tail _ (List.Mem.tail _ (List.Mem.tail _ (List.Mem.tail _ (List.Mem.head _)))))
  have cr5 := H.cell (w.heap.size) 5 (.int .i64 s) (List.Mem.tail _ (List.Mem.tail _ (List.Mem.tail _ (List.Mem.tail _ (List.Mem.tail _ (List.Mem.head _))))))
  have cr6 := H.cell (w.heap.size) 6 (.int .i64 f) (List.Mem.tail _ (List.Mem.tail _ (List.Mem.tail _ (List.Mem.tail _ (List.Mem.tail _ (List.Mem.tail _ (List.Mem.head _)))))))
  have cr7 := H.cell (w.heap.size) 7 (.int .i64 t) (List.Mem.tail _ (List.Mem.tail _ (List.Mem.tail _ (List.Mem.tail _ (List.Mem.tail _ (List.Mem.tail _ (List.Mem.tail _ (List.Mem.head _))))))))
  have lr := H.lt (w.heap.size) 0 (.int .i64 0) (List.Mem.head _)
  go_quiet (fail)
  go_wp2_with fail
  clear cr0 cr1 cr2 cr3 cr4 cr5 cr6 cr7 lr
  replace H := H.drewN nq
  rw [HW.out]
  (with_reducible refine (K.base 0 2 29 q o s f t y n false _ (H.factsU (List.Mem.tail _ (List.Mem.tail _ (List.Mem.tail _ (List.Mem.tail _ (List.Mem.tail _ (List.Mem.tail _ (List.Mem.tail _ (List.Mem.tail _ (List.Mem.tail _ (List.Mem.tail _ (List.Mem.tail _ (List.Mem.tail _ (List.Mem.tail _ (List.Mem.tail _ (List.Mem.tail _ (List.Mem.tail _ (List.Mem.head _)))))))))))))))))) MM.out HA.out AB.out).mono ?_)
  rintro e w3 ⟨rfl, hb⟩
  replace H := H.below hb
  clear hb
  have cr0 := H.cell (w.heap.size) 0 (.int .i64 0) (List.Mem.head _)
  have cr1 := H.cell (w.heap.size) 1 (.int .i64 2) (List.Mem.tail _ (List.Mem.head _))
  have cr2 := H.cell (w.heap.size) 2 (.int .i64 29) (List.Mem.tail _ (List.Mem.tail _ (List.Mem.head _)))
  have cr3 := H.cell (w.heap.size) 3 (.int .i64 q) (List.Mem.tail _ (List.Mem.tail _ (List.Mem.tail _ (List.Mem.head _))))
  have cr4 := H.cell (w.heap.size) 4 (.int .i64 o) (List.Mem.tail _ (List.Mem.tail _ (List.Mem.tail _ (List.Mem.tail _ (List.Mem.head _)))))
  have cr5 := H.cell (w.heap.size) 5 (.int .i64 s) (List.Mem.tail _ (List.Mem.tail _ (List.Mem.tail _ (List.Mem.tail _ (List.Mem.tail _ (List.Mem.head _))))))
  have cr6 := H.cell (w.heap.size) 6 (.int .i64 f) (List.Mem.tail _ (List.Mem.tail _ (List.Mem.tail _ (List.Mem.tail _ (List.Mem.tail _ (List.Mem.tail _ (List.Mem.head _)))))))
  have cr7 := H.cell (w.heap.size) 7 (.int .i64 t) (List.Mem.tail _ (List.Mem.tail _ (List.Mem.tail _ (List.Mem.tail _ (List.Mem.tail _ (List.Mem.tail _ (List.Mem.tail _ (List.Mem.head _))))))))
  have lr := H.lt (w.heap.size) 0 (.int .i64 0) (List.Mem.head _)
  go_wp2_with fail
  clear cr0 cr1 cr2 cr3 cr4 cr5 cr6 cr7 lr
  (with_reducible refine (rleap_is y false _ HL.out).mono ?_)
  rintro e w4 ⟨rfl, hb⟩
  replace H := H.below hb
  clear hb
  have cr0 := H.cell (w.heap.size) 0 (.int .i64 0) (List.Mem.head _)
  have cr1 := H.cell (w.heap.size) 1 (.int .i64 2) (List.Mem.tail _ (List.Mem.head _))
  have cr2 := H.cell (w.heap.size) 2 (.int .i64 29) (List.Mem.tail _ (List.Mem.tail _ (List.Mem.head _)))
  have cr3 := H.cell (w.heap.size) 3 (.int .i64 q) (List.Mem.tail _ (List.Mem.tail _ (List.Mem.tail _ (List.Mem.head _))))
  have cr4 := H.cell (w.heap.size) 4 (.int .i64 o) (List.Mem.tail _ (List.Mem.tail _ (List.Mem.tail _ (List.Mem.tail _ (List.Mem.head _)))))
  have cr5 := H.cell (w.heap.size) 5 (.int .i64 s) (List.Mem.tail _ (List.Mem.tail _ (List.Mem.tail _ (List.Mem.tail _ (List.Mem.tail _ (List.Mem.head _))))))
  have cr6 := H.cell (w.heap.size) 6 (.int .i64 f) (List.Mem.tail _ (List.Mem.tail _ (List.Mem.tail _ (List.Mem.tail _ (List.Mem.tail _ (List.Mem.tail _ (List.Mem.head _)))))))
  have cr7 := H.cell (w.heap.size) 7 (.int .i64 t) (List.Mem.tail _ (List.Mem.tail _ (List.Mem.tail _ (List.Mem.tail _ (List.Mem.tail _ (List.Mem.tail _ (List.Mem.tail _ (List.Mem.head _))))))))
  have lr := H.lt (w.heap.size) 0 (.int .i64 0) (List.Mem.head _)
  go_wp2_with fail
  clear cr0 cr1 cr2 cr3 cr4 cr5 cr6 cr7 lr
  go_ret
  exact ⟨rfl, H.old⟩

set_option maxHeartbeats 8000000 in
set_option maxRecDepth 100000 in
theorem rumany_fixm (K : RWay) (k m d q o s f t i y n : Int) (w : World) (hL : FactsU w) (bi : 0 ≤ i ∧ i < 65536) (hk0 : k = 0) (hm2 : m ≠ 2) (h : Ru.mb ⟨k, m, d, q, o, s, f, t⟩ = true) (hM : Ru.May ⟨k, m, d, q, o, s, f, t⟩) (ft : 1 ≤ f ∧ f ≤ t ∧ t ≤ 9999) (hw : wrap64 (f + i % (t - f + 1)) = y) (ha : Ru.bas ⟨k, m, d, q, o, s, f, t⟩ y = n) (hab : decide (0 < n) = true) (hP : Ru.May ⟨k, m, d, q, o, 0, f, t⟩) (hI : Ru.Is ⟨k, m, d, q, o, 0, f, t⟩ n) (hX : ∀ j, -20 ≤ j → j ≤ 20 → j ≠ 0 → ¬ Ru.Is ⟨k, m, d, q, o, 0, f, t⟩ (n + j)) (nb : 1 ≤ n ∧ n ≤ 3652059) :
    Calls Tryd.prog 6 #[.agg #[.int .i64 k, .int .i64 m, .int .i64 d, .int .i64 q, .int .i64 o, .int .i64 s, .int .i64 f, .int .i64 t], .int .u16 i] w fun e w' => e = .returned (.bool true) ∧ Below w.heap.size w w' := by
  have H := (Held.start w).add (f := factsUF) hL
  clear hL
  have HM := Lib.hid h
  have MM := Lib.hid hM
  have HW := Lib.hid hw
  have HA := Lib.hid ha
  have AB := Lib.hid hab
  have MP := Lib.hid hP
  have HI := Lib.hid hI
  have HX := Lib.hid hX
  clear h hM hw ha hab hP hI hX
  subst hk0
  have m2 : (m == 2) = false := by simpa using hm2
  go_enter Tryd.func6, Tryd.ntmps6
  go_wp2_with fail
  replace H := (H.oct (w.heap.size) (.int .i64 0) (.int .i64 m) (.int .i64 d) (.int .i64 q) (.int .i64 o) (.int .i64 s) (.int .i64 f) (.int .i64 t) 23 rfl)
  (with_reducible refine (rushown_any K _ (H.factsU (List.Mem.tail _ (List.Mem.tail _ (List.Mem.tail _ (List.Mem.tail _ (List.Mem.tail _ (List.Mem.tail _ (List.Mem.tail _ (List.Mem.tail _ (List.Mem.tail _ (List.Mem.tail _ (List.Mem.tail _ (List.Mem.tail _ (List.Mem.tail _ (List.Mem.tail _ (List.Mem.tail _ (List.Mem.tail _ (List.Mem.head _))))))))))))))))))).mono ?_)
  rintro e w1 ⟨rfl, hb⟩
  replace H := H.below hb
  clear hb
  have cr0 := H.cell (w.heap.size) 0 (.int .i64 0) (List.Mem.head _)
  have cr1 := H.cell (w.heap.size) 1 (.int .i64 m) (List.Mem.tail _ (List.Mem.head _))
  have cr2 := H.cell (w.heap.size) 2 (.int .i64 d) (List.Mem.tail _ (List.Mem.tail _ (List.Mem.head _)))
  have cr3 := H.cell (w.heap.size) 3 (.int .i64 q) (List.Mem.tail _ (List.Mem.tail _ (List.Mem.tail _ (List.Mem.head _))))
  have cr4 := H.cell (w.heap.size) 4 (.int .i64 o) (List.Mem.tail _ (List.Mem.tail _ (List.Mem.tail _ (List.Mem.tail _ (List.Mem.head _)))))
  have cr5 := H.cell (w.heap.size) 5 (.int .i64 s) (List.Mem.tail _ (List.Mem.tail _ (List.Mem.tail _ (List.Mem.tail _ (List.Mem.tail _ (List.Mem.head _))))))
  have cr6 := H.cell (w.heap.size) 6 (.int .i64 f) (List.Mem.tail _ (List.Mem.tail _ (List.Mem.tail _ (List.Mem.tail _ (List.Mem.tail _ (List.Mem.tail _ (List.Mem.head _)))))))
  have cr7 := H.cell (w.heap.size) 7 (.int .i64 t) (List.Mem.tail _ (List.Mem.tail _ (List.Mem.tail _ (List.Mem.tail _ (List.Mem.tail _ (List.Mem.tail _ (List.Mem.tail _ (List.Mem.head _))))))))
  have lr := H.lt (w.heap.size) 0 (.int .i64 0) (List.Mem.head _)
  go_wp2_with fail
  clear cr0 cr1 cr2 cr3 cr4 cr5 cr6 cr7 lr
  (with_reducible refine (rumay_any 0 m d q o s f t true _ HM.out).mono ?_)
  rintro e w2 ⟨rfl, hb⟩
  replace H := H.below hb
  clear hb
  have cr0 := H.cell (w.heap.size) 0 (.int .i64 0) (List.Mem.head _)
  have cr1 := H.cell (w.heap.size) 1 (.int .i64 m) (List.Mem.tail _ (List.Mem.head _))
  have cr2 := H.cell (w.heap.size) 2 (.int .i64 d) (List.Mem.tail _ (List.Mem.tail _ (List.Mem.head _)))
  have cr3 := H.cell (w.heap.size) 3 (.int .i64 q) (List.Mem.tail _ (List.Mem.tail _ (List.Mem.tail _ (List.Mem.head _))))
  have cr4 := H.cell (w.heap.size) 4 (.int .i64 o) (List.Mem.tail _ (List.Mem.tail _ (List.Mem.tail _ (List.Mem.tail _ (List.Mem.head _)))))
  have cr5 := H.cell (w.heap.size) 5 (.int .i64 s) (List.Mem.tail _ (List.Mem.tail _ (List.Mem.tail _ (List.Mem.tail _ (List.Mem.tail _ (List.Mem.head _))))))
  have cr6 := H.cell (w.heap.size) 6 (.int .i64 f) (List.Mem.tail _ (List.Mem.tail _ (List.Mem.tail _ (List.Mem.tail _ (List.Mem.tail _ (List.Mem.tail _ (List.Mem.head _)))))))
  have cr7 := H.cell (w.heap.size) 7 (.int .i64 t) (List.Mem.tail _ (List.Mem.tail _ (List.Mem.tail _ (List.Mem.tail _ (List.Mem.tail _ (List.Mem.tail _ (List.Mem.tail _ (List.Mem.head _))))))))
  have lr := H.lt (w.heap.size) 0 (.int .i64 0) (List.Mem.head _)
  go_wp2_with fail
  clear cr0 cr1 cr2 cr3 cr4 cr5 cr6 cr7 lr
  have cr0 := H.cell (w.heap.size) 0 (.int .i64 0) (List.Mem.head _)
  have cr1 := H.cell (w.heap.size) 1 (.int .i64 m) (List.Mem.tail _ (List.Mem.head _))
  have cr2 := H.cell (w.heap.size) 2 (.int .i64 d) (List.Mem.tail _ (List.Mem.tail _ (List.Mem.head _)))
  have cr3 := H.cell (w.heap.size) 3 (.int .i64 q) (List.Mem.tail _ (List.Mem.tail _ (List.Mem.tail _ (List.Mem.head _))))
  have cr4 := H.cell (w.heap.size) 4 (.int .i64 o) (List.Mem.tail _ (List.Mem.tail _ (List.Mem.tail _ (List.Mem.tail _ (List.Mem.head _)))))
  have cr5 := H.cell (w.heap.size) 5 (.int .i64 s) (List.Mem.tail _ (List.Mem.tail _ (List.Mem.tail _ (List.Mem.tail _ (List.Mem.tail _ (List.Mem.head _))))))
  have cr6 := H.cell (w.heap.size) 6 (.int .i64 f) (List.Mem.tail _ (List.Mem.tail _ (List.Mem.tail _ (List.Mem.tail _ (List.Mem.tail _ (List.Mem.tail _ (List.Mem.head _)))))))
  have cr7 := H.cell (w.heap.size) 7 (.int .i64 t) (List.Mem.tail _ (List.Mem.tail _ (List.Mem.tail _ (List.Mem.tail _ (List.Mem.tail _ (List.Mem.tail _ (List.Mem.tail _ (List.Mem.head _))))))))
  have lr := H.lt (w.heap.size) 0 (.int .i64 0) (List.Mem.head _)
  go_quiet (fail)
  go_wp2_with fail
  clear cr0 cr1 cr2 cr3 cr4 cr5 cr6 cr7 lr
  replace H := H.drewN nq
  rw [HW.out]
  (with_reducible refine (K.base 0 m d q o s f t y n true _ (H.factsU (List.Mem.tail _ (List.Mem.tail _ (List.Mem.tail _ (List.Mem.tail _ (List.Mem.tail _ (List.Mem.tail _ (List.Mem.tail _ (List.Mem.tail _ (List.Mem.tail _ (List.Mem.tail _ (List.Mem.tail _ (List.Mem.tail _ (List.Mem.tail _ (List.Mem.tail _ (List.Mem.tail _ (List.Mem.tail _ (List.Mem.head _)))))))))))))))))) MM.out HA.out AB.out).mono ?_)
  rintro e w3 ⟨rfl, hb⟩
  replace H := H.below hb
  clear hb
  have cr0 := H.cell (w.heap.size) 0 (.int .i64 0) (List.Mem.head _)
  have cr1 := H.cell (w.heap.size) 1 (.int .i64 m) (List.Mem.tail _ (List.Mem.head _))
  have cr2 := H.cell (w.heap.size) 2 (.int .i64 d) (List.Mem.tail _ (List.Mem.tail _ (List.Mem.head _)))
  have cr3 := H.cell (w.heap.size) 3 (.int .i64 q) (List.Mem.tail _ (List.Mem.tail _ (List.Mem.tail _ (List.Mem.head _))))
  have cr4 := H.cell (w.heap.size) 4 (.int .i64 o) (List.Mem.tail _ (List.Mem.tail _ (List.Mem.tail _ (List.Mem.tail _ (List.Mem.head _)))))
  have cr5 := H.cell (w.heap.size) 5 (.int .i64 s) (List.Mem.tail _ (List.Mem.tail _ (List.Mem.tail _ (List.Mem.tail _ (List.Mem.tail _ (List.Mem.head _))))))
  have cr6 := H.cell (w.heap.size) 6 (.int .i64 f) (List.Mem.tail _ (List.Mem.tail _ (List.Mem.tail _ (List.Mem.tail _ (List.Mem.tail _ (List.Mem.tail _ (List.Mem.head _)))))))
  have cr7 := H.cell (w.heap.size) 7 (.int .i64 t) (List.Mem.tail _ (List.Mem.tail _ (List.Mem.tail _ (List.Mem.tail _ (List.Mem.tail _ (List.Mem.tail _ (List.Mem.tail _ (List.Mem.head _))))))))
  have lr := H.lt (w.heap.size) 0 (.int .i64 0) (List.Mem.head _)
  go_wp2_with fail
  clear cr0 cr1 cr2 cr3 cr4 cr5 cr6 cr7 lr
  replace H := (H.oct (w3.heap.size) (.int .i64 0) (.int .i64 m) (.int .i64 d) (.int .i64 q) (.int .i64 o) (.int .i64 0) (.int .i64 f) (.int .i64 t) 23 rfl)
  go_loopw [11] (fun u W' => ∃ j : Int, u = .int .i64 j ∧ -20 ≤ j ∧ j ≤ 21 ∧ Held w [.cell (w3.heap.size) 0 (.int .i64 0), .cell (w3.heap.size) 1 (.int .i64 m), .cell (w3.heap.size) 2 (.int .i64 d), .cell (w3.heap.size) 3 (.int .i64 q), .cell (w3.heap.size) 4 (.int .i64 o), .cell (w3.heap.size) 5 (.int .i64 0), .cell (w3.heap.size) 6 (.int .i64 f), .cell (w3.heap.size) 7 (.int .i64 t), .free (w3.heap.size) 0, .free (w3.heap.size) 1, .free (w3.heap.size) 2, .free (w3.heap.size) 3, .free (w3.heap.size) 4, .free (w3.heap.size) 5, .free (w3.heap.size) 6, .free (w3.heap.size) 7, .cell (w.heap.size) 0 (.int .i64 0), .cell (w.heap.size) 1 (.int .i64 m), .cell (w.heap.size) 2 (.int .i64 d), .cell (w.heap.size) 3 (.int .i64 q), .cell (w.heap.size) 4 (.int .i64 o), .cell (w.heap.size) 5 (.int .i64 s), .cell (w.heap.size) 6 (.int .i64 f), .cell (w.heap.size) 7 (.int .i64 t), .free (w.heap.size) 0, .free (w.heap.size) 1, .free (w.heap.size) 2, .free (w.heap.size) 3, .free (w.heap.size) 4, .free (w.heap.size) 5, .free (w.heap.size) 6, .free (w.heap.size) 7, factsUF] W') (fun u _ => (21 - intOf u).toNat)
  case atStart => exact ⟨-20, rfl, by omega, by omega, H⟩
  case round =>
    clear H
    obtain ⟨j, rfl, j1, j2, H⟩ := hrel
    by_cases hj : j ≤ 20
    · by_cases j0 : j = 0
      · subst j0
        have cz0 := H.cell (w3.heap.size) 0 (.int .i64 0) (List.Mem.head _)
        have cz1 := H.cell (w3.heap.size) 1 (.int .i64 m) (List.Mem.tail _ (List.Mem.head _))
        have cz2 := H.cell (w3.heap.size) 2 (.int .i64 d) (List.Mem.tail _ (List.Mem.tail _ (List.Mem.head _)))
        have cz3 := H.cell (w3.heap.size) 3 (.int .i64 q) (List.Mem.tail _ (List.Mem.tail _ (List.Mem.tail _ (List.Mem.head _))))
        have cz4 := H.cell (w3.heap.size) 4 (.int .i64 o) (List.Mem.tail _ (List.Mem.tail _ (List.Mem.tail _ (List.Mem.tail _ (List.Mem.head _)))))
        have cz5 := H.cell (w3.heap.size) 5 (.int .i64 0) (List.Mem.tail _ (List.Mem.tail _ (List.Mem.tail _ (List.Mem.tail _ (List.Mem.tail _ (List.Mem.head _))))))
        have cz6 := H.cell (w3.heap.size) 6 (.int .i64 f) (List.Mem.tail _ (List.Mem.tail _ (List.Mem.tail _ (List.Mem.tail _ (List.Mem.tail _ (List.Mem.tail _ (List.Mem.head _)))))))
        have cz7 := H.cell (w3.heap.size) 7 (.int .i64 t) (List.Mem.tail _ (List.Mem.tail _ (List.Mem.tail _ (List.Mem.tail _ (List.Mem.tail _ (List.Mem.tail _ (List.Mem.tail _ (List.Mem.head _))))))))
        have lz := H.lt (w3.heap.size) 0 (.int .i64 0) (List.Mem.head _)
        go_wp2
        go_roundw
        case rel => exact ⟨0 + 1, rfl, by omega, by omega, H⟩
        case measure => simp [intOf]
      · have jz : (j != 0) = true := by simpa using j0
        have NI := Lib.hid (HX.out j j1 hj j0)
        clear j0
        obtain ⟨e, hD⟩ : ∃ e, Hid (decide (1 ≤ n + j ∧ n + j ≤ 3652059) = e) := ⟨_, Lib.hid rfl⟩
        have cz0 := H.cell (w3.heap.size) 0 (.int .i64 0) (List.Mem.head _)
        have cz1 := H.cell (w3.heap.size) 1 (.int .i64 m) (List.Mem.tail _ (List.Mem.head _))
        have cz2 := H.cell (w3.heap.size) 2 (.int .i64 d) (List.Mem.tail _ (List.Mem.tail _ (List.Mem.head _)))
        have cz3 := H.cell (w3.heap.size) 3 (.int .i64 q) (List.Mem.tail _ (List.Mem.tail _ (List.Mem.tail _ (List.Mem.head _))))
        have cz4 := H.cell (w3.heap.size) 4 (.int .i64 o) (List.Mem.tail _ (List.Mem.tail _ (List.Mem.tail _ (List.Mem.tail _ (List.Mem.head _)))))
        have cz5 := H.cell (w3.heap.size) 5 (.int .i64 0) (List.Mem.tail _ (List.Mem.tail _ (List.Mem.tail _ (List.Mem.tail _ (List.Mem.tail _ (List.Mem.head _))))))
        have cz6 := H.cell (w3.heap.size) 6 (.int .i64 f) (List.Mem.tail _ (List.Mem.tail _ (List.Mem.tail _ (List.Mem.tail _ (List.Mem.tail _ (List.Mem.tail _ (List.Mem.head _)))))))
        have cz7 := H.cell (w3.heap.size) 7 (.int .i64 t) (List.Mem.tail _ (List.Mem.tail _ (List.Mem.tail _ (List.Mem.tail _ (List.Mem.tail _ (List.Mem.tail _ (List.Mem.tail _ (List.Mem.head _))))))))
        have lz := H.lt (w3.heap.size) 0 (.int .i64 0) (List.Mem.head _)
        go_wp2_with fail
        clear cz0 cz1 cz2 cz3 cz4 cz5 cz6 cz7 lz
        (with_reducible refine (rday12_is (n + j) e _ hD.out).mono ?_)
        rintro e2 w7 ⟨rfl, hb⟩
        replace H := H.below hb
        clear hb
        have cz0 := H.cell (w3.heap.size) 0 (.int .i64 0) (List.Mem.head _)
        have cz1 := H.cell (w3.heap.size) 1 (.int .i64 m) (List.Mem.tail _ (List.Mem.head _))
        have cz2 := H.cell (w3.heap.size) 2 (.int .i64 d) (List.Mem.tail _ (List.Mem.tail _ (List.Mem.head _)))
        have cz3 := H.cell (w3.heap.size) 3 (.int .i64 q) (List.Mem.tail _ (List.Mem.tail _ (List.Mem.tail _ (List.Mem.head _))))
        have cz4 := H.cell (w3.heap.size) 4 (.int .i64 o) (List.Mem.tail _ (List.Mem.tail _ (List.Mem.tail _ (List.Mem.tail _ (List.Mem.head _)))))
        have cz5 := H.cell (w3.heap.size) 5 (.int .i64 0) (List.Mem.tail _ (List.Mem.tail _ (List.Mem.tail _ (List.Mem.tail _ (List.Mem.tail _ (List.Mem.head _))))))
        have cz6 := H.cell (w3.heap.size) 6 (.int .i64 f) (List.Mem.tail _ (List.Mem.tail _ (List.Mem.tail _ (List.Mem.tail _ (List.Mem.tail _ (List.Mem.tail _ (List.Mem.head _)))))))
        have cz7 := H.cell (w3.heap.size) 7 (.int .i64 t) (List.Mem.tail _ (List.Mem.tail _ (List.Mem.tail _ (List.Mem.tail _ (List.Mem.tail _ (List.Mem.tail _ (List.Mem.tail _ (List.Mem.head _))))))))
        have lz := H.lt (w3.heap.size) 0 (.int .i64 0) (List.Mem.head _)
        cases e
        · go_wp2
          go_roundw
          case rel => exact ⟨j + 1, rfl, by omega, by omega, H⟩
          case measure => simp [intOf]; omega
        · go_wp2_with fail
          clear cz0 cz1 cz2 cz3 cz4 cz5 cz6 cz7 lz
          (with_reducible refine (K.is 0 m d q o 0 f t (n + j) false _ (H.factsU (List.Mem.tail _ (List.Mem.tail _ (List.Mem.tail _ (List.Mem.tail _ (List.Mem.tail _ (List.Mem.tail _ (List.Mem.tail _ (List.Mem.tail _ (List.Mem.tail _ (List.Mem.tail _ (List.Mem.tail _ (List.Mem.tail _ (List.Mem.tail _ (List.Mem.tail _ (List.Mem.tail _ (List.Mem.tail _ (List.Mem.tail _ (List.Mem.tail _ (List.Mem.tail _ (List.Mem.tail _ (List.Mem.tail _ (List.Mem.tail _ (List.Mem.tail _ (List.Mem.tail _ (List.Mem.tail _ (List.Mem.tail _ (List.Mem.tail _ (List.Mem.tail _ (List.Mem.tail _ (List.Mem.tail _ (List.Mem.tail _ (List.Mem.tail _ (List.Mem.head _)))))))))))))))))))))))))))))))))) MP.out ⟨fun c => absurd c (by decide), fun c => absurd c NI.out⟩).mono ?_)
          rintro e2 w8 ⟨rfl, hb⟩
          replace H := H.below hb
          clear hb
          have cz0 := H.cell (w3.heap.size) 0 (.int .i64 0) (List.Mem.head _)
          have cz1 := H.cell (w3.heap.size) 1 (.int .i64 m) (List.Mem.tail _ (List.Mem.head _))
          have cz2 := H.cell (w3.heap.size) 2 (.int .i64 d) (List.Mem.tail _ (List.Mem.tail _ (List.Mem.head _)))
          have cz3 := H.cell (w3.heap.size) 3 (.int .i64 q) (List.Mem.tail _ (List.Mem.tail _ (List.Mem.tail _ (List.Mem.head _))))
          have cz4 := H.cell (w3.heap.size) 4 (.int .i64 o) (List.Mem.tail _ (List.Mem.tail _ (List.Mem.tail _ (List.Mem.tail _ (List.Mem.head _)))))
          have cz5 := H.cell (w3.heap.size) 5 (.int .i64 0) (List.Mem.tail _ (List.Mem.tail _ (List.Mem.tail _ (List.Mem.tail _ (List.Mem.tail _ (List.Mem.head _))))))
          have cz6 := H.cell (w3.heap.size) 6 (.int .i64 f) (List.Mem.tail _ (List.Mem.tail _ (List.Mem.tail _ (List.Mem.tail _ (List.Mem.tail _ (List.Mem.tail _ (List.Mem.head _)))))))
          have cz7 := H.cell (w3.heap.size) 7 (.int .i64 t) (List.Mem.tail _ (List.Mem.tail _ (List.Mem.tail _ (List.Mem.tail _ (List.Mem.tail _ (List.Mem.tail _ (List.Mem.tail _ (List.Mem.head _))))))))
          have lz := H.lt (w3.heap.size) 0 (.int .i64 0) (List.Mem.head _)
          go_wp2
          go_roundw
          case rel => exact ⟨j + 1, rfl, by omega, by omega, H⟩
          case measure => simp [intOf]; omega
    · have e : j = 21 := by omega
      subst e
      have cz0 := H.cell (w3.heap.size) 0 (.int .i64 0) (List.Mem.head _)
      have cz1 := H.cell (w3.heap.size) 1 (.int .i64 m) (List.Mem.tail _ (List.Mem.head _))
      have cz2 := H.cell (w3.heap.size) 2 (.int .i64 d) (List.Mem.tail _ (List.Mem.tail _ (List.Mem.head _)))
      have cz3 := H.cell (w3.heap.size) 3 (.int .i64 q) (List.Mem.tail _ (List.Mem.tail _ (List.Mem.tail _ (List.Mem.head _))))
      have cz4 := H.cell (w3.heap.size) 4 (.int .i64 o) (List.Mem.tail _ (List.Mem.tail _ (List.Mem.tail _ (List.Mem.tail _ (List.Mem.head _)))))
      have cz5 := H.cell (w3.heap.size) 5 (.int .i64 0) (List.Mem.tail _ (List.Mem.tail _ (List.Mem.tail _ (List.Mem.tail _ (List.Mem.tail _ (List.Mem.head _))))))
      have cz6 := H.cell (w3.heap.size) 6 (.int .i64 f) (List.Mem.tail _ (List.Mem.tail _ (List.Mem.tail _ (List.Mem.tail _ (List.Mem.tail _ (List.Mem.tail _ (List.Mem.head _)))))))
      have cz7 := H.cell (w3.heap.size) 7 (.int .i64 t) (List.Mem.tail _ (List.Mem.tail _ (List.Mem.tail _ (List.Mem.tail _ (List.Mem.tail _ (List.Mem.tail _ (List.Mem.tail _ (List.Mem.head _))))))))
      have lz := H.lt (w3.heap.size) 0 (.int .i64 0) (List.Mem.head _)
      go_wp2_with fail
      clear cz0 cz1 cz2 cz3 cz4 cz5 cz6 cz7 lz
      (with_reducible refine (K.is 0 m d q o 0 f t n true _ (H.factsU (List.Mem.tail _ (List.Mem.tail _ (List.Mem.tail _ (List.Mem.tail _ (List.Mem.tail _ (List.Mem.tail _ (List.Mem.tail _ (List.Mem.tail _ (List.Mem.tail _ (List.Mem.tail _ (List.Mem.tail _ (List.Mem.tail _ (List.Mem.tail _ (List.Mem.tail _ (List.Mem.tail _ (List.Mem.tail _ (List.Mem.tail _ (List.Mem.tail _ (List.Mem.tail _ (List.Mem.tail _ (List.Mem.tail _ (List.Mem.tail _ (List.Mem.tail _ (List.Mem.tail _ (List.Mem.tail _ (List.Mem.tail _ (List.Mem.tail _ (List.Mem.tail _ (List.Mem.tail _ (List.Mem.tail _ (List.Mem.tail _ (List.Mem.tail _ (List.Mem.head _)))))))))))))))))))))))))))))))))) MP.out ⟨fun _ => HI.out, fun _ => rfl⟩).mono ?_)
      rintro e2 w8 ⟨rfl, hb⟩
      replace H := H.below hb
      clear hb
      go_wp2
      go_ret
      exact ⟨rfl, H.old⟩

set_option maxHeartbeats 8000000 in
set_option maxRecDepth 100000 in
theorem rumany_fixd (K : RWay) (k m d q o s f t i y n : Int) (w : World) (hL : FactsU w) (bi : 0 ≤ i ∧ i < 65536) (hk0 : k = 0) (hm1 : m = 2) (hd2 : d ≠ 29) (h : Ru.mb ⟨k, m, d, q, o, s, f, t⟩ = true) (hM : Ru.May ⟨k, m, d, q, o, s, f, t⟩) (ft : 1 ≤ f ∧ f ≤ t ∧ t ≤ 9999) (hw : wrap64 (f + i % (t - f + 1)) = y) (ha : Ru.bas ⟨k, m, d, q, o, s, f, t⟩ y = n) (hab : decide (0 < n) = true) (hP : Ru.May ⟨k, m, d, q, o, 0, f, t⟩) (hI : Ru.Is ⟨k, m, d, q, o, 0, f, t⟩ n) (hX : ∀ j, -20 ≤ j → j ≤ 20 → j ≠ 0 → ¬ Ru.Is ⟨k, m, d, q, o, 0, f, t⟩ (n + j)) (nb : 1 ≤ n ∧ n ≤ 3652059) :
    Calls Tryd.prog 6 #[.agg #[.int .i64 k, .int .i64 m, .int .i64 d, .int .i64 q, .int .i64 o, .int .i64 s, .int .i64 f, .int .i64 t], .int .u16 i] w fun e w' => e = .returned (.bool true) ∧ Below w.heap.size w w' := by
  have H := (Held.start w).add (f := factsUF) hL
  clear hL
  have HM := Lib.hid h
  have MM := Lib.hid hM
  have HW := Lib.hid hw
  have HA := Lib.hid ha
  have AB := Lib.hid hab
  have MP := Lib.hid hP
  have HI := Lib.hid hI
  have HX := Lib.hid hX
  clear h hM hw ha hab hP hI hX
  subst hk0
  subst hm1
  have d2 : (d == 29) = false := by simpa using hd2
  go_enter Tryd.func6, Tryd.ntmps6
  go_wp2_with fail
  replace H := (H.oct (w.heap.size) (.int .i64 0) (.int .i64 2) (.int .i64 d) (.int .i64 q) (.int .i64 o) (.int .i64 s) (.int .i64 f) (.int .i64 t) 23 rfl)
  (with_reducible refine (rushown_any K _ (H.factsU (List.Mem.tail _ (List.Mem.tail _ (List.Mem.tail _ (List.Mem.tail _ (List.Mem.tail _ (List.Mem.tail _ (List.Mem.tail _ (List.Mem.tail _ (List.Mem.tail _ (List.Mem.tail _ (List.Mem.tail _ (List.Mem.tail _ (List.Mem.tail _ (List.Mem.tail _ (List.Mem.tail _ (List.Mem.tail _ (List.Mem.head _))))))))))))))))))).mono ?_)
  rintro e w1 ⟨rfl, hb⟩
  replace H := H.below hb
  clear hb
  have cr0 := H.cell (w.heap.size) 0 (.int .i64 0) (List.Mem.head _)
  have cr1 := H.cell (w.heap.size) 1 (.int .i64 2) (List.Mem.tail _ (List.Mem.head _))
  have cr2 := H.cell (w.heap.size) 2 (.int .i64 d) (List.Mem.tail _ (List.Mem.tail _ (List.Mem.head _)))
  have cr3 := H.cell (w.heap.size) 3 (.int .i64 q) (List.Mem.tail _ (List.Mem.tail _ (List.Mem.tail _ (List.Mem.head _))))
  have cr4 := H.cell (w.heap.size) 4 (.int .i64 o) (List.Mem.tail _ (List.Mem.tail _ (List.Mem.tail _ (List.Mem.tail _ (List.Mem.head _)))))
  have cr5 := H.cell (w.heap.size) 5 (.int .i64 s) (List.Mem.tail _ (List.Mem.tail _ (List.Mem.tail _ (List.Mem.tail _ (List.Mem.tail _ (List.Mem.head _))))))
  have cr6 := H.cell (w.heap.size) 6 (.int .i64 f) (List.Mem.tail _ (List.Mem.tail _ (List.Mem.tail _ (List.Mem.tail _ (List.Mem.tail _ (List.Mem.tail _ (List.Mem.head _)))))))
  have cr7 := H.cell (w.heap.size) 7 (.int .i64 t) (List.Mem.tail _ (List.Mem.tail _ (List.Mem.tail _ (List.Mem.tail _ (List.Mem.tail _ (List.Mem.tail _ (List.Mem.tail _ (List.Mem.head _))))))))
  have lr := H.lt (w.heap.size) 0 (.int .i64 0) (List.Mem.head _)
  go_wp2_with fail
  clear cr0 cr1 cr2 cr3 cr4 cr5 cr6 cr7 lr
  (with_reducible refine (rumay_any 0 2 d q o s f t true _ HM.out).mono ?_)
  rintro e w2 ⟨rfl, hb⟩
  replace H := H.below hb
  clear hb
  have cr0 := H.cell (w.heap.size) 0 (.int .i64 0) (List.Mem.head _)
  have cr1 := H.cell (w.heap.size) 1 (.int .i64 2) (List.Mem.tail _ (List.Mem.head _))
  have cr2 := H.cell (w.heap.size) 2 (.int .i64 d) (List.Mem.tail _ (List.Mem.tail _ (List.Mem.head _)))
  have cr3 := H.cell (w.heap.size) 3 (.int .i64 q) (List.Mem.tail _ (List.Mem.tail _ (List.Mem.tail _ (List.Mem.head _))))
  have cr4 := H.cell (w.heap.size) 4 (.int .i64 o) (List.Mem.tail _ (List.Mem.tail _ (List.Mem.tail _ (List.Mem.tail _ (List.Mem.head _)))))
  have cr5 := H.cell (w.heap.size) 5 (.int .i64 s) (List.Mem.tail _ (List.Mem.tail _ (List.Mem.tail _ (List.Mem.tail _ (List.Mem.tail _ (List.Mem.head _))))))
  have cr6 := H.cell (w.heap.size) 6 (.int .i64 f) (List.Mem.tail _ (List.Mem.tail _ (List.Mem.tail _ (List.Mem.tail _ (List.Mem.tail _ (List.Mem.tail _ (List.Mem.head _)))))))
  have cr7 := H.cell (w.heap.size) 7 (.int .i64 t) (List.Mem.tail _ (List.Mem.tail _ (List.Mem.tail _ (List.Mem.tail _ (List.Mem.tail _ (List.Mem.tail _ (List.Mem.tail _ (List.Mem.head _))))))))
  have lr := H.lt (w.heap.size) 0 (.int .i64 0) (List.Mem.head _)
  go_wp2_with fail
  clear cr0 cr1 cr2 cr3 cr4 cr5 cr6 cr7 lr
  have cr0 := H.cell (w.heap.size) 0 (.int .i64 0) (List.Mem.head _)
  have cr1 := H.cell (w.heap.size) 1 (.int .i64 2) (List.Mem.tail _ (List.Mem.head _))
  have cr2 := H.cell (w.heap.size) 2 (.int .i64 d) (List.Mem.tail _ (List.Mem.tail _ (List.Mem.head _)))
  have cr3 := H.cell (w.heap.size) 3 (.int .i64 q) (List.Mem.tail _ (List.Mem.tail _ (List.Mem.tail _ (List.Mem.head _))))
  have cr4 := H.cell (w.heap.size) 4 (.int .i64 o) (List.Mem.tail _ (List.Mem.tail _ (List.Mem.tail _ (List.Mem.tail _ (List.Mem.head _)))))
  have cr5 := H.cell (w.heap.size) 5 (.int .i64 s) (List.Mem.tail _ (List.Mem.tail _ (List.Mem.tail _ (List.Mem.tail _ (List.Mem.tail _ (List.Mem.head _))))))
  have cr6 := H.cell (w.heap.size) 6 (.int .i64 f) (List.Mem.tail _ (List.Mem.tail _ (List.Mem.tail _ (List.Mem.tail _ (List.Mem.tail _ (List.Mem.tail _ (List.Mem.head _)))))))
  have cr7 := H.cell (w.heap.size) 7 (.int .i64 t) (List.Mem.tail _ (List.Mem.tail _ (List.Mem.tail _ (List.Mem.tail _ (List.Mem.tail _ (List.Mem.tail _ (List.Mem.tail _ (List.Mem.head _))))))))
  have lr := H.lt (w.heap.size) 0 (.int .i64 0) (List.Mem.head _)
  go_quiet (fail)
  go_wp2_with fail
  clear cr0 cr1 cr2 cr3 cr4 cr5 cr6 cr7 lr
  replace H := H.drewN nq
  rw [HW.out]
  (with_reducible refine (K.base 0 2 d q o s f t y n true _ (H.factsU (List.Mem.tail _ (List.Mem.tail _ (List.Mem.tail _ (List.Mem.tail _ (List.Mem.tail _ (List.Mem.tail _ (List.Mem.tail _ (List.Mem.tail _ (List.Mem.tail _ (List.Mem.tail _ (List.Mem.tail _ (List.Mem.tail _ (List.Mem.tail _ (List.Mem.tail _ (List.Mem.tail _ (List.Mem.tail _ (List.Mem.head _)))))))))))))))))) MM.out HA.out AB.out).mono ?_)
  rintro e w3 ⟨rfl, hb⟩
  replace H := H.below hb
  clear hb
  have cr0 := H.cell (w.heap.size) 0 (.int .i64 0) (List.Mem.head _)
  have cr1 := H.cell (w.heap.size) 1 (.int .i64 2) (List.Mem.tail _ (List.Mem.head _))
  have cr2 := H.cell (w.heap.size) 2 (.int .i64 d) (List.Mem.tail _ (List.Mem.tail _ (List.Mem.head _)))
  have cr3 := H.cell (w.heap.size) 3 (.int .i64 q) (List.Mem.tail _ (List.Mem.tail _ (List.Mem.tail _ (List.Mem.head _))))
  have cr4 := H.cell (w.heap.size) 4 (.int .i64 o) (List.Mem.tail _ (List.Mem.tail _ (List.Mem.tail _ (List.Mem.tail _ (List.Mem.head _)))))
  have cr5 := H.cell (w.heap.size) 5 (.int .i64 s) (List.Mem.tail _ (List.Mem.tail _ (List.Mem.tail _ (List.Mem.tail _ (List.Mem.tail _ (List.Mem.head _))))))
  have cr6 := H.cell (w.heap.size) 6 (.int .i64 f) (List.Mem.tail _ (List.Mem.tail _ (List.Mem.tail _ (List.Mem.tail _ (List.Mem.tail _ (List.Mem.tail _ (List.Mem.head _)))))))
  have cr7 := H.cell (w.heap.size) 7 (.int .i64 t) (List.Mem.tail _ (List.Mem.tail _ (List.Mem.tail _ (List.Mem.tail _ (List.Mem.tail _ (List.Mem.tail _ (List.Mem.tail _ (List.Mem.head _))))))))
  have lr := H.lt (w.heap.size) 0 (.int .i64 0) (List.Mem.head _)
  go_wp2_with fail
  clear cr0 cr1 cr2 cr3 cr4 cr5 cr6 cr7 lr
  replace H := (H.oct (w3.heap.size) (.int .i64 0) (.int .i64 2) (.int .i64 d) (.int .i64 q) (.int .i64 o) (.int .i64 0) (.int .i64 f) (.int .i64 t) 23 rfl)
  go_loopw [11] (fun u W' => ∃ j : Int, u = .int .i64 j ∧ -20 ≤ j ∧ j ≤ 21 ∧ Held w [.cell (w3.heap.size) 0 (.int .i64 0), .cell (w3.heap.size) 1 (.int .i64 2), .cell (w3.heap.size) 2 (.int .i64 d), .cell (w3.heap.size) 3 (.int .i64 q), .cell (w3.heap.size) 4 (.int .i64 o), .cell (w3.heap.size) 5 (.int .i64 0), .cell (w3.heap.size) 6 (.int .i64 f), .cell (w3.heap.size) 7 (.int .i64 t), .free (w3.heap.size) 0, .free (w3.heap.size) 1, .free (w3.heap.size) 2, .free (w3.heap.size) 3, .free (w3.heap.size) 4, .free (w3.heap.size) 5, .free (w3.heap.size) 6, .free (w3.heap.size) 7, .cell (w.heap.size) 0 (.int .i64 0), .cell (w.heap.size) 1 (.int .i64 2), .cell (w.heap.size) 2 (.int .i64 d), .cell (w.heap.size) 3 (.int .i64 q), .cell (w.heap.size) 4 (.int .i64 o), .cell (w.heap.size) 5 (.int .i64 s), .cell (w.heap.size) 6 (.int .i64 f), .cell (w.heap.size) 7 (.int .i64 t), .free (w.heap.size) 0, .free (w.heap.size) 1, .free (w.heap.size) 2, .free (w.heap.size) 3, .free (w.heap.size) 4, .free (w.heap.size) 5, .free (w.heap.size) 6, .free (w.heap.size) 7, factsUF] W') (fun u _ => (21 - intOf u).toNat)
  case atStart => exact ⟨-20, rfl, by omega, by omega, H⟩
  case round =>
    clear H
    obtain ⟨j, rfl, j1, j2, H⟩ := hrel
    by_cases hj : j ≤ 20
    · by_cases j0 : j = 0
      · subst j0
        have cz0 := H.cell (w3.heap.size) 0 (.int .i64 0) (List.Mem.head _)
        have cz1 := H.cell (w3.heap.size) 1 (.int .i64 2) (List.Mem.tail _ (List.Mem.head _))
        have cz2 := H.cell (w3.heap.size) 2 (.int .i64 d) (List.Mem.tail _ (List.Mem.tail _ (List.Mem.head _)))
        have cz3 := H.cell (w3.heap.size) 3 (.int .i64 q) (List.Mem.tail _ (List.Mem.tail _ (List.Mem.tail _ (List.Mem.head _))))
        have cz4 := H.cell (w3.heap.size) 4 (.int .i64 o) (List.Mem.tail _ (List.Mem.tail _ (List.Mem.tail _ (List.Mem.tail _ (List.Mem.head _)))))
        have cz5 := H.cell (w3.heap.size) 5 (.int .i64 0) (List.Mem.tail _ (List.Mem.tail _ (List.Mem.tail _ (List.Mem.tail _ (List.Mem.tail _ (List.Mem.head _))))))
        have cz6 := H.cell (w3.heap.size) 6 (.int .i64 f) (List.Mem.tail _ (List.Mem.tail _ (List.Mem.tail _ (List.Mem.tail _ (List.Mem.tail _ (List.Mem.tail _ (List.Mem.head _)))))))
        have cz7 := H.cell (w3.heap.size) 7 (.int .i64 t) (List.Mem.tail _ (List.Mem.tail _ (List.Mem.tail _ (List.Mem.tail _ (List.Mem.tail _ (List.Mem.tail _ (List.Mem.tail _ (List.Mem.head _))))))))
        have lz := H.lt (w3.heap.size) 0 (.int .i64 0) (List.Mem.head _)
        go_wp2
        go_roundw
        case rel => exact ⟨0 + 1, rfl, by omega, by omega, H⟩
        case measure => simp [intOf]
      · have jz : (j != 0) = true := by simpa using j0
        have NI := Lib.hid (HX.out j j1 hj j0)
        clear j0
        obtain ⟨e, hD⟩ : ∃ e, Hid (decide (1 ≤ n + j ∧ n + j ≤ 3652059) = e) := ⟨_, Lib.hid rfl⟩
        have cz0 := H.cell (w3.heap.size) 0 (.int .i64 0) (List.Mem.head _)
        have cz1 := H.cell (w3.heap.size) 1 (.int .i64 2) (List.Mem.tail _ (List.Mem.head _))
        have cz2 := H.cell (w3.heap.size) 2 (.int .i64 d) (List.Mem.tail _ (List.Mem.tail _ (List.Mem.head _)))
        have cz3 := H.cell (w3.heap.size) 3 (.int .i64 q) (List.Mem.tail _ (List.Mem.tail _ (List.Mem.tail _ (List.Mem.head _))))
        have cz4 := H.cell (w3.heap.size) 4 (.int .i64 o) (List.Mem.tail _ (List.Mem.tail _ (List.Mem.tail _ (List.Mem.tail _ (List.Mem.head _)))))
        have cz5 := H.cell (w3.heap.size) 5 (.int .i64 0) (List.Mem.tail _ (List.Mem.tail _ (List.Mem.tail _ (List.Mem.tail _ (List.Mem.tail _ (List.Mem.head _))))))
        have cz6 := H.cell (w3.heap.size) 6 (.int .i64 f) (List.Mem.tail _ (List.Mem.tail _ (List.Mem.tail _ (List.Mem.tail _ (List.Mem.tail _ (List.Mem.tail _ (List.Mem.head _)))))))
        have cz7 := H.cell (w3.heap.size) 7 (.int .i64 t) (List.Mem.tail _ (List.Mem.tail _ (List.Mem.tail _ (List.Mem.tail _ (List.Mem.tail _ (List.Mem.tail _ (List.Mem.tail _ (List.Mem.head _))))))))
        have lz := H.lt (w3.heap.size) 0 (.int .i64 0) (List.Mem.head _)
        go_wp2_with fail
        clear cz0 cz1 cz2 cz3 cz4 cz5 cz6 cz7 lz
        (with_reducible refine (rday12_is (n + j) e _ hD.out).mono ?_)
        rintro e2 w7 ⟨rfl, hb⟩
        replace H := H.below hb
        clear hb
        have cz0 := H.cell (w3.heap.size) 0 (.int .i64 0) (List.Mem.head _)
        have cz1 := H.cell (w3.heap.size) 1 (.int .i64 2) (List.Mem.tail _ (List.Mem.head _))
        have cz2 := H.cell (w3.heap.size) 2 (.int .i64 d) (List.Mem.tail _ (List.Mem.tail _ (List.Mem.head _)))
        have cz3 := H.cell (w3.heap.size) 3 (.int .i64 q) (List.Mem.tail _ (List.Mem.tail _ (List.Mem.tail _ (List.Mem.head _))))
        have cz4 := H.cell (w3.heap.size) 4 (.int .i64 o) (List.Mem.tail _ (List.Mem.tail _ (List.Mem.tail _ (List.Mem.tail _ (List.Mem.head _)))))
        have cz5 := H.cell (w3.heap.size) 5 (.int .i64 0) (List.Mem.tail _ (List.Mem.tail _ (List.Mem.tail _ (List.Mem.tail _ (List.Mem.tail _ (List.Mem.head _))))))
        have cz6 := H.cell (w3.heap.size) 6 (.int .i64 f) (List.Mem.tail _ (List.Mem.tail _ (List.Mem.tail _ (List.Mem.tail _ (List.Mem.tail _ (List.Mem.tail _ (List.Mem.head _)))))))
        have cz7 := H.cell (w3.heap.size) 7 (.int .i64 t) (List.Mem.tail _ (List.Mem.tail _ (List.Mem.tail _ (List.Mem.tail _ (List.Mem.tail _ (List.Mem.tail _ (List.Mem.tail _ (List.Mem.head _))))))))
        have lz := H.lt (w3.heap.size) 0 (.int .i64 0) (List.Mem.head _)
        cases e
        · go_wp2
          go_roundw
          case rel => exact ⟨j + 1, rfl, by omega, by omega, H⟩
          case measure => simp [intOf]; omega
        · go_wp2_with fail
          clear cz0 cz1 cz2 cz3 cz4 cz5 cz6 cz7 lz
          (with_reducible refine (K.is 0 2 d q o 0 f t (n + j) false _ (H.factsU (List.Mem.tail _ (List.Mem.tail _ (List.Mem.tail _ (List.Mem.tail _ (List.Mem.tail _ (List.Mem.tail _ (List.Mem.tail _ (List.Mem.tail _ (List.Mem.tail _ (List.Mem.tail _ (List.Mem.tail _ (List.Mem.tail _ (List.Mem.tail _ (List.Mem.tail _ (List.Mem.tail _ (List.Mem.tail _ (List.Mem.tail _ (List.Mem.tail _ (List.Mem.tail _ (List.Mem.tail _ (List.Mem.tail _ (List.Mem.tail _ (List.Mem.tail _ (List.Mem.tail _ (List.Mem.tail _ (List.Mem.tail _ (List.Mem.tail _ (List.Mem.tail _ (List.Mem.tail _ (List.Mem.tail _ (List.Mem.tail _ (List.Mem.tail _ (List.Mem.head _)))))))))))))))))))))))))))))))))) MP.out ⟨fun c => absurd c (by decide), fun c => absurd c NI.out⟩).mono ?_)
          rintro e2 w8 ⟨rfl, hb⟩
          replace H := H.below hb
          clear hb
          have cz0 := H.cell (w3.heap.size) 0 (.int .i64 0) (List.Mem.head _)
          have cz1 := H.cell (w3.heap.size) 1 (.int .i64 2) (List.Mem.tail _ (List.Mem.head _))
          have cz2 := H.cell (w3.heap.size) 2 (.int .i64 d) (List.Mem.tail _ (List.Mem.tail _ (List.Mem.head _)))
          have cz3 := H.cell (w3.heap.size) 3 (.int .i64 q) (List.Mem.tail _ (List.Mem.tail _ (List.Mem.tail _ (List.Mem.head _))))
          have cz4 := H.cell (w3.heap.size) 4 (.int .i64 o) (List.Mem.tail _ (List.Mem.tail _ (List.Mem.tail _ (List.Mem.tail _ (List.Mem.head _)))))
          have cz5 := H.cell (w3.heap.size) 5 (.int .i64 0) (List.Mem.tail _ (List.Mem.tail _ (List.Mem.tail _ (List.Mem.tail _ (List.Mem.tail _ (List.Mem.head _))))))
          have cz6 := H.cell (w3.heap.size) 6 (.int .i64 f) (List.Mem.tail _ (List.Mem.tail _ (List.Mem.tail _ (List.Mem.tail _ (List.Mem.tail _ (List.Mem.tail _ (List.Mem.head _)))))))
          have cz7 := H.cell (w3.heap.size) 7 (.int .i64 t) (List.Mem.tail _ (List.Mem.tail _ (List.Mem.tail _ (List.Mem.tail _ (List.Mem.tail _ (List.Mem.tail _ (List.Mem.tail _ (List.Mem.head _))))))))
          have lz := H.lt (w3.heap.size) 0 (.int .i64 0) (List.Mem.head _)
          go_wp2
          go_roundw
          case rel => exact ⟨j + 1, rfl, by omega, by omega, H⟩
          case measure => simp [intOf]; omega
    · have e : j = 21 := by omega
      subst e
      have cz0 := H.cell (w3.heap.size) 0 (.int .i64 0) (List.Mem.head _)
      have cz1 := H.cell (w3.heap.size) 1 (.int .i64 2) (List.Mem.tail _ (List.Mem.head _))
      have cz2 := H.cell (w3.heap.size) 2 (.int .i64 d) (List.Mem.tail _ (List.Mem.tail _ (List.Mem.head _)))
      have cz3 := H.cell (w3.heap.size) 3 (.int .i64 q) (List.Mem.tail _ (List.Mem.tail _ (List.Mem.tail _ (List.Mem.head _))))
      have cz4 := H.cell (w3.heap.size) 4 (.int .i64 o) (List.Mem.tail _ (List.Mem.tail _ (List.Mem.tail _ (List.Mem.tail _ (List.Mem.head _)))))
      have cz5 := H.cell (w3.heap.size) 5 (.int .i64 0) (List.Mem.tail _ (List.Mem.tail _ (List.Mem.tail _ (List.Mem.tail _ (List.Mem.tail _ (List.Mem.head _))))))
      have cz6 := H.cell (w3.heap.size) 6 (.int .i64 f) (List.Mem.tail _ (List.Mem.tail _ (List.Mem.tail _ (List.Mem.tail _ (List.Mem.tail _ (List.Mem.tail _ (List.Mem.head _)))))))
      have cz7 := H.cell (w3.heap.size) 7 (.int .i64 t) (List.Mem.tail _ (List.Mem.tail _ (List.Mem.tail _ (List.Mem.tail _ (List.Mem.tail _ (List.Mem.tail _ (List.Mem.tail _ (List.Mem.head _))))))))
      have lz := H.lt (w3.heap.size) 0 (.int .i64 0) (List.Mem.head _)
      go_wp2_with fail
      clear cz0 cz1 cz2 cz3 cz4 cz5 cz6 cz7 lz
      (with_reducible refine (K.is 0 2 d q o 0 f t n true _ (H.factsU (List.Mem.tail _ (List.Mem.tail _ (List.Mem.tail _ (List.Mem.tail _ (List.Mem.tail _ (List.Mem.tail _ (List.Mem.tail _ (List.Mem.tail _ (List.Mem.tail _ (List.Mem.tail _ (List.Mem.tail _ (List.Mem.tail _ (List.Mem.tail _ (List.Mem.tail _ (List.Mem.tail _ (List.Mem.tail _ (List.Mem.tail _ (List.Mem.tail _ (List.Mem.tail _ (List.Mem.tail _ (List.Mem.tail _ (List.Mem.tail _ (List.Mem.tail _ (List.Mem.tail _ (List.Mem.tail _ (List.Mem.tail _ (List.Mem.tail _ (List.Mem.tail _ (List.Mem.tail _ (List.Mem.tail _ (List.Mem.tail _ (List.Mem.tail _ (List.Mem.head _)))))))))))))))))))))))))))))))))) MP.out ⟨fun _ => HI.out, fun _ => rfl⟩).mono ?_)
      rintro e2 w8 ⟨rfl, hb⟩
      replace H := H.below hb
      clear hb
      go_wp2
      go_ret
      exact ⟨rfl, H.old⟩

set_option maxHeartbeats 8000000 in
set_option maxRecDepth 100000 in
theorem rumany_fivet (K : RWay) (k m d q o s f t i y n : Int) (w : World) (hL : FactsU w) (bi : 0 ≤ i ∧ i < 65536) (hk0 : k = 1) (hq1 : q = 5)  (h : Ru.mb ⟨k, m, d, q, o, s, f, t⟩ = true) (hM : Ru.May ⟨k, m, d, q, o, s, f, t⟩) (ft : 1 ≤ f ∧ f ≤ t ∧ t ≤ 9999) (hw : wrap64 (f + i % (t - f + 1)) = y) (ha : Ru.bas ⟨k, m, d, q, o, s, f, t⟩ y = n) (hab : decide (0 < n) = true) (hP : Ru.May ⟨k, m, d, q, o, 0, f, t⟩) (hI : Ru.Is ⟨k, m, d, q, o, 0, f, t⟩ n) (hX : ∀ j, -20 ≤ j → j ≤ 20 → j ≠ 0 → ¬ Ru.Is ⟨k, m, d, q, o, 0, f, t⟩ (n + j)) (nb : 1 ≤ n ∧ n ≤ 3652059) :
    Calls Tryd.prog 6 #[.agg #[.int .i64 k, .int .i64 m, .int .i64 d, .int .i64 q, .int .i64 o, .int .i64 s, .int .i64 f, .int .i64 t], .int .u16 i] w fun e w' => e = .returned (.bool true) ∧ Below w.heap.size w w' := by
  have H := (Held.start w).add (f := factsUF) hL
  clear hL
  have HM := Lib.hid h
  have MM := Lib.hid hM
  have HW := Lib.hid hw
  have HA := Lib.hid ha
  have AB := Lib.hid hab
  have MP := Lib.hid hP
  have HI := Lib.hid hI
  have HX := Lib.hid hX
  clear h hM hw ha hab hP hI hX
  subst hk0
  subst hq1
  go_enter Tryd.func6, Tryd.ntmps6
  go_wp2_with fail
  replace H := (H.oct (w.heap.size) (.int .i64 1) (.int .i64 m) (.int .i64 d) (.int .i64 5) (.int .i64 o) (.int .i64 s) (.int .i64 f) (.int .i64 t) 23 rfl)
  (with_reducible refine (rushown_any K _ (H.factsU (List.Mem.tail _ (List.Mem.tail _ (List.Mem.tail _ (List.Mem.tail _ (List.Mem.tail _ (List.Mem.tail _ (List.Mem.tail _ (List.Mem.tail _ (List.Mem.tail _ (List.Mem.tail _ (List.Mem.tail _ (List.Mem.tail _ (List.Mem.tail _ (List.Mem.tail _ (List.Mem.tail _ (List.Mem.tail _ (List.Mem.head _))))))))))))))))))).mono ?_)
  rintro e w1 ⟨rfl, hb⟩
  replace H := H.below hb
  clear hb
  have cr0 := H.cell (w.heap.size) 0 (.int .i64 1) (List.Mem.head _)
  have cr1 := H.cell (w.heap.size) 1 (.int .i64 m) (List.Mem.tail _ (List.Mem.head _))
  have cr2 := H.cell (w.heap.size) 2 (.int .i64 d) (List.Mem.tail _ (List.Mem.tail _ (List.Mem.head _)))
  have cr3 := H.cell (w.heap.size) 3 (.int .i64 5) (List.Mem.tail _ (List.Mem.tail _ (List.Mem.tail _ (List.Mem.head _))))
  have cr4 := H.cell (w.heap.size) 4 (.int .i64 o) (List.Mem.tail _ (List.Mem.tail _ (List.Mem.tail _ (List.Mem.tail _ (List.Mem.head _)))))
  have cr5 := H.cell (w.heap.size) 5 (.int .i64 s) (List.Mem.tail _ (List.Mem.tail _ (List.Mem.tail _ (List.Mem.tail _ (List.Mem.tail _ (List.Mem.head _))))))
  have cr6 := H.cell (w.heap.size) 6 (.int .i64 f) (List.Mem.tail _ (List.Mem.tail _ (List.Mem.tail _ (List.Mem.tail _ (List.Mem.tail _ (List.Mem.tail _ (List.Mem.head _)))))))
  have cr7 := H.cell (w.heap.size) 7 (.int .i64 t) (List.Mem.tail _ (List.Mem.tail _ (List.Mem.tail _ (List.Mem.tail _ (List.Mem.tail _ (List.Mem.tail _ (List.Mem.tail _ (List.Mem.head _))))))))
  have lr := H.lt (w.heap.size) 0 (.int .i64 1) (List.Mem.head _)
  go_wp2_with fail
  clear cr0 cr1 cr2 cr3 cr4 cr5 cr6 cr7 lr
  (with_reducible refine (rumay_any 1 m d 5 o s f t true _ HM.out).mono ?_)
  rintro e w2 ⟨rfl, hb⟩
  replace H := H.below hb
  clear hb
  have cr0 := H.cell (w.heap.size) 0 (.int .i64 1) (List.Mem.head _)
  have cr1 := H.cell (w.heap.size) 1 (.int .i64 m) (List.Mem.tail _ (List.Mem.head _))
  have cr2 := H.cell (w.heap.size) 2 (.int .i64 d) (List.Mem.tail _ (List.Mem.tail _ (List.Mem.head _)))
  have cr3 := H.cell (w.heap.size) 3 (.int .i64 5) (List.Mem.tail _ (List.Mem.tail _ (List.Mem.tail _ (List.Mem.head _))))
  have cr4 := H.cell (w.heap.size) 4 (.int .i64 o) (List.Mem.tail _ (List.Mem.tail _ (List.Mem.tail _ (List.Mem.tail _ (List.Mem.head _)))))
  have cr5 := H.cell (w.heap.size) 5 (.int .i64 s) (List.Mem.tail _ (List.Mem.tail _ (List.Mem.tail _ (List.Mem.tail _ (List.Mem.tail _ (List.Mem.head _))))))
  have cr6 := H.cell (w.heap.size) 6 (.int .i64 f) (List.Mem.tail _ (List.Mem.tail _ (List.Mem.tail _ (List.Mem.tail _ (List.Mem.tail _ (List.Mem.tail _ (List.Mem.head _)))))))
  have cr7 := H.cell (w.heap.size) 7 (.int .i64 t) (List.Mem.tail _ (List.Mem.tail _ (List.Mem.tail _ (List.Mem.tail _ (List.Mem.tail _ (List.Mem.tail _ (List.Mem.tail _ (List.Mem.head _))))))))
  have lr := H.lt (w.heap.size) 0 (.int .i64 1) (List.Mem.head _)
  go_wp2_with fail
  clear cr0 cr1 cr2 cr3 cr4 cr5 cr6 cr7 lr
  have cr0 := H.cell (w.heap.size) 0 (.int .i64 1) (List.Mem.head _)
  have cr1 := H.cell (w.heap.size) 1 (.int .i64 m) (List.Mem.tail _ (List.Mem.head _))
  have cr2 := H.cell (w.heap.size) 2 (.int .i64 d) (List.Mem.tail _ (List.Mem.tail _ (List.Mem.head _)))
  have cr3 := H.cell (w.heap.size) 3 (.int .i64 5) (List.Mem.tail _ (List.Mem.tail _ (List.Mem.tail _ (List.Mem.head _))))
  have cr4 := H.cell (w.heap.size) 4 (.int .i64 o) (List.Mem.tail _ (List.Mem.tail _ (List.Mem.tail _ (List.Mem.tail _ (List.Mem.head _)))))
  have cr5 := H.cell (w.heap.size) 5 (.int .i64 s) (List.Mem.tail _ (List.Mem.tail _ (List.Mem.tail _ (List.Mem.tail _ (List.Mem.tail _ (List.Mem.head _))))))
  have cr6 := H.cell (w.heap.size) 6 (.int .i64 f) (List.Mem.tail _ (List.Mem.tail _ (List.Mem.tail _ (List.Mem.tail _ (List.Mem.tail _ (List.Mem.tail _ (List.Mem.head _)))))))
  have cr7 := H.cell (w.heap.size) 7 (.int .i64 t) (List.Mem.tail _ (List.Mem.tail _ (List.Mem.tail _ (List.Mem.tail _ (List.Mem.tail _ (List.Mem.tail _ (List.Mem.tail _ (List.Mem.head _))))))))
  have lr := H.lt (w.heap.size) 0 (.int .i64 1) (List.Mem.head _)
  go_quiet (fail)
  go_wp2_with fail
  clear cr0 cr1 cr2 cr3 cr4 cr5 cr6 cr7 lr
  replace H := H.drewN nq
  rw [HW.out]
  (with_reducible refine (K.base 1 m d 5 o s f t y n true _ (H.factsU (List.Mem.tail _ (List.Mem.tail _ (List.Mem.tail _ (List.Mem.tail _ (List.Mem.tail _ (List.Mem.tail _ (List.Mem.tail _ (List.Mem.tail _ (List.Mem.tail _ (List.Mem.tail _ (List.Mem.tail _ (List.Mem.tail _ (List.Mem.tail _ (List.Mem.tail _ (List.Mem.tail _ (List.Mem.tail _ (List.Mem.head _)))))))))))))))))) MM.out HA.out AB.out).mono ?_)
  rintro e w3 ⟨rfl, hb⟩
  replace H := H.below hb
  clear hb
  have cr0 := H.cell (w.heap.size) 0 (.int .i64 1) (List.Mem.head _)
  have cr1 := H.cell (w.heap.size) 1 (.int .i64 m) (List.Mem.tail _ (List.Mem.head _))
  have cr2 := H.cell (w.heap.size) 2 (.int .i64 d) (List.Mem.tail _ (List.Mem.tail _ (List.Mem.head _)))
  have cr3 := H.cell (w.heap.size) 3 (.int .i64 5) (List.Mem.tail _ (List.Mem.tail _ (List.Mem.tail _ (List.Mem.head _))))
  have cr4 := H.cell (w.heap.size) 4 (.int .i64 o) (List.Mem.tail _ (List.Mem.tail _ (List.Mem.tail _ (List.Mem.tail _ (List.Mem.head _)))))
  have cr5 := H.cell (w.heap.size) 5 (.int .i64 s) (List.Mem.tail _ (List.Mem.tail _ (List.Mem.tail _ (List.Mem.tail _ (List.Mem.tail _ (List.Mem.head _))))))
  have cr6 := H.cell (w.heap.size) 6 (.int .i64 f) (List.Mem.tail _ (List.Mem.tail _ (List.Mem.tail _ (List.Mem.tail _ (List.Mem.tail _ (List.Mem.tail _ (List.Mem.head _)))))))
  have cr7 := H.cell (w.heap.size) 7 (.int .i64 t) (List.Mem.tail _ (List.Mem.tail _ (List.Mem.tail _ (List.Mem.tail _ (List.Mem.tail _ (List.Mem.tail _ (List.Mem.tail _ (List.Mem.head _))))))))
  have lr := H.lt (w.heap.size) 0 (.int .i64 1) (List.Mem.head _)
  go_wp2_with fail
  clear cr0 cr1 cr2 cr3 cr4 cr5 cr6 cr7 lr
  replace H := (H.oct (w3.heap.size) (.int .i64 1) (.int .i64 m) (.int .i64 d) (.int .i64 5) (.int .i64 o) (.int .i64 0) (.int .i64 f) (.int .i64 t) 23 rfl)
  go_loopw [11] (fun u W' => ∃ j : Int, u = .int .i64 j ∧ -20 ≤ j ∧ j ≤ 21 ∧ Held w [.cell (w3.heap.size) 0 (.int .i64 1), .cell (w3.heap.size) 1 (.int .i64 m), .cell (w3.heap.size) 2 (.int .i64 d), .cell (w3.heap.size) 3 (.int .i64 5), .cell (w3.heap.size) 4 (.int .i64 o), .cell (w3.heap.size) 5 (.int .i64 0), .cell (w3.heap.size) 6 (.int .i64 f), .cell (w3.heap.size) 7 (.int .i64 t), .free (w3.heap.size) 0, .free (w3.heap.size) 1, .free (w3.heap.size) 2, .free (w3.heap.size) 3, .free (w3.heap.size) 4, .free (w3.heap.size) 5, .free (w3.heap.size) 6, .free (w3.heap.size) 7, .cell (w.heap.size) 0 (.int .i64 1), .cell (w.heap.size) 1 (.int .i64 m), .cell (w.heap.size) 2 (.int .i64 d), .cell (w.heap.size) 3 (.int .i64 5), .cell (w.heap.size) 4 (.int .i64 o), .cell (w.heap.size) 5 (.int .i64 s), .cell (w.heap.size) 6 (.int .i64 f), .cell (w.heap.size) 7 (.int .i64 t), .free (w.heap.size) 0, .free (w.heap.size) 1, .free (w.heap.size) 2, .free (w.heap.size) 3, .free (w.heap.size) 4, .free (w.heap.size) 5, .free (w.heap.size) 6, .free (w.heap.size) 7, factsUF] W') (fun u _ => (21 - intOf u).toNat)
  case atStart => exact ⟨-20, rfl, by omega, by omega, H⟩
  case round =>
    clear H
    obtain ⟨j, rfl, j1, j2, H⟩ := hrel
    by_cases hj : j ≤ 20
    · by_cases j0 : j = 0
      · subst j0
        have cz0 := H.cell (w3.heap.size) 0 (.int .i64 1) (List.Mem.head _)
        have cz1 := H.cell (w3.heap.size) 1 (.int .i64 m) (List.Mem.tail _ (List.Mem.head _))
        have cz2 := H.cell (w3.heap.size) 2 (.int .i64 d) (List.Mem.tail _ (List.Mem.tail _ (List.Mem.head _)))
        have cz3 := H.cell (w3.heap.size) 3 (.int .i64 5) (List.Mem.tail _ (List.Mem.tail _ (List.Mem.tail _ (List.Mem.head _))))
        have cz4 := H.cell (w3.heap.size) 4 (.int .i64 o) (List.Mem.tail _ (List.Mem.tail _ (List.Mem.tail _ (List.Mem.tail _ (List.Mem.head _)))))
        have cz5 := H.cell (w3.heap.size) 5 (.int .i64 0) (List.Mem.tail _ (List.Mem.tail _ (List.Mem.tail _ (List.Mem.tail _ (List.Mem.tail _ (List.Mem.head _))))))
        have cz6 := H.cell (w3.heap.size) 6 (.int .i64 f) (List.Mem.tail _ (List.Mem.tail _ (List.Mem.tail _ (List.Mem.tail _ (List.Mem.tail _ (List.Mem.tail _ (List.Mem.head _)))))))
        have cz7 := H.cell (w3.heap.size) 7 (.int .i64 t) (List.Mem.tail _ (List.Mem.tail _ (List.Mem.tail _ (List.Mem.tail _ (List.Mem.tail _ (List.Mem.tail _ (List.Mem.tail _ (List.Mem.head _))))))))
        have lz := H.lt (w3.heap.size) 0 (.int .i64 1) (List.Mem.head _)
        go_wp2
        go_roundw
        case rel => exact ⟨0 + 1, rfl, by omega, by omega, H⟩
        case measure => simp [intOf]
      · have jz : (j != 0) = true := by simpa using j0
        have NI := Lib.hid (HX.out j j1 hj j0)
        clear j0
        obtain ⟨e, hD⟩ : ∃ e, Hid (decide (1 ≤ n + j ∧ n + j ≤ 3652059) = e) := ⟨_, Lib.hid rfl⟩
        have cz0 := H.cell (w3.heap.size) 0 (.int .i64 1) (List.Mem.head _)
        have cz1 := H.cell (w3.heap.size) 1 (.int .i64 m) (List.Mem.tail _ (List.Mem.head _))
        have cz2 := H.cell (w3.heap.size) 2 (.int .i64 d) (List.Mem.tail _ (List.Mem.tail _ (List.Mem.head _)))
        have cz3 := H.cell (w3.heap.size) 3 (.int .i64 5) (List.Mem.tail _ (List.Mem.tail _ (List.Mem.tail _ (List.Mem.head _))))
        have cz4 := H.cell (w3.heap.size) 4 (.int .i64 o) (List.Mem.tail _ (List.Mem.tail _ (List.Mem.tail _ (List.Mem.tail _ (List.Mem.head _)))))
        have cz5 := H.cell (w3.heap.size) 5 (.int .i64 0) (List.Mem.tail _ (List.Mem.tail _ (List.Mem.tail _ (List.Mem.tail _ (List.Mem.tail _ (List.Mem.head _))))))
        have cz6 := H.cell (w3.heap.size) 6 (.int .i64 f) (List.Mem.tail _ (List.Mem.tail _ (List.Mem.tail _ (List.Mem.tail _ (List.Mem.tail _ (List.Mem.tail _ (List.Mem.head _)))))))
        have cz7 := H.cell (w3.heap.size) 7 (.int .i64 t) (List.Mem.tail _ (List.Mem.tail _ (List.Mem.tail _ (List.Mem.tail _ (List.Mem.tail _ (List.Mem.tail _ (List.Mem.tail _ (List.Mem.head _))))))))
        have lz := H.lt (w3.heap.size) 0 (.int .i64 1) (List.Mem.head _)
        go_wp2_with fail
        clear cz0 cz1 cz2 cz3 cz4 cz5 cz6 cz7 lz
        (with_reducible refine (rday12_is (n + j) e _ hD.out).mono ?_)
        rintro e2 w7 ⟨rfl, hb⟩
        replace H := H.below hb
        clear hb
        have cz0 := H.cell (w3.heap.size) 0 (.int .i64 1) (List.Mem.head _)
        have cz1 := H.cell (w3.heap.size) 1 (.int .i64 m) (List.Mem.tail _ (List.Mem.head _))
        have cz2 := H.cell (w3.heap.size) 2 (.int .i64 d) (List.Mem.tail _ (List.Mem.tail _ (List.Mem.head _)))
        have cz3 := H.cell (w3.heap.size) 3 (.int .i64 5) (List.Mem.tail _ (List.Mem.tail _ (List.Mem.tail _ (List.Mem.head _))))
        have cz4 := H.cell (w3.heap.size) 4 (.int .i64 o) (List.Mem.tail _ (List.Mem.tail _ (List.Mem.tail _ (List.Mem.tail _ (List.Mem.head _)))))
        have cz5 := H.cell (w3.heap.size) 5 (.int .i64 0) (List.Mem.tail _ (List.Mem.tail _ (List.Mem.tail _ (List.Mem.tail _ (List.Mem.tail _ (List.Mem.head _))))))
        have cz6 := H.cell (w3.heap.size) 6 (.int .i64 f) (List.Mem.tail _ (List.Mem.tail _ (List.Mem.tail _ (List.Mem.tail _ (List.Mem.tail _ (List.Mem.tail _ (List.Mem.head _)))))))
        have cz7 := H.cell (w3.heap.size) 7 (.int .i64 t) (List.Mem.tail _ (List.Mem.tail _ (List.Mem.tail _ (List.Mem.tail _ (List.Mem.tail _ (List.Mem.tail _ (List.Mem.tail _ (List.Mem.head _))))))))
        have lz := H.lt (w3.heap.size) 0 (.int .i64 1) (List.Mem.head _)
        cases e
        · go_wp2
          go_roundw
          case rel => exact ⟨j + 1, rfl, by omega, by omega, H⟩
          case measure => simp [intOf]; omega
        · go_wp2_with fail
          clear cz0 cz1 cz2 cz3 cz4 cz5 cz6 cz7 lz
          (with_reducible refine (K.is 1 m d 5 o 0 f t (n + j) false _ (H.factsU (List.Mem.tail _ (List.Mem.tail _ (List.Mem.tail _ (List.Mem.tail _ (List.Mem.tail _ (List.Mem.tail _ (List.Mem.tail _ (List.Mem.tail _ (List.Mem.tail _ (List.Mem.tail _ (List.Mem.tail _ (List.Mem.tail _ (List.Mem.tail _ (List.Mem.tail _ (List.Mem.tail _ (List.Mem.tail _ (List.Mem.tail _ (List.Mem.tail _ (List.Mem.tail _ (List.Mem.tail _ (List.Mem.tail _ (List.Mem.tail _ (List.Mem.tail _ (List.Mem.tail _ (List.Mem.tail _ (List.Mem.tail _ (List.Mem.tail _ (List.Mem.tail _ (List.Mem.tail _ (List.Mem.tail _ (List.Mem.tail _ (List.Mem.tail _ (List.Mem.head _)))))))))))))))))))))))))))))))))) MP.out ⟨fun c => absurd c (by decide), fun c => absurd c NI.out⟩).mono ?_)
          rintro e2 w8 ⟨rfl, hb⟩
          replace H := H.below hb
          clear hb
          have cz0 := H.cell (w3.heap.size) 0 (.int .i64 1) (List.Mem.head _)
          have cz1 := H.cell (w3.heap.size) 1 (.int .i64 m) (List.Mem.tail _ (List.Mem.head _))
          have cz2 := H.cell (w3.heap.size) 2 (.int .i64 d) (List.Mem.tail _ (List.Mem.tail _ (List.Mem.head _)))
          have cz3 := H.cell (w3.heap.size) 3 (.int .i64 5) (List.Mem.tail _ (List.Mem.tail _ (List.Mem.tail _ (List.Mem.head _))))
          have cz4 := H.cell (w3.heap.size) 4 (.int .i64 o) (List.Mem.tail _ (List.Mem.tail _ (List.Mem.tail _ (List.Mem.tail _ (List.Mem.head _)))))
          have cz5 := H.cell (w3.heap.size) 5 (.int .i64 0) (List.Mem.tail _ (List.Mem.tail _ (List.Mem.tail _ (List.Mem.tail _ (List.Mem.tail _ (List.Mem.head _))))))
          have cz6 := H.cell (w3.heap.size) 6 (.int .i64 f) (List.Mem.tail _ (List.Mem.tail _ (List.Mem.tail _ (List.Mem.tail _ (List.Mem.tail _ (List.Mem.tail _ (List.Mem.head _)))))))
          have cz7 := H.cell (w3.heap.size) 7 (.int .i64 t) (List.Mem.tail _ (List.Mem.tail _ (List.Mem.tail _ (List.Mem.tail _ (List.Mem.tail _ (List.Mem.tail _ (List.Mem.tail _ (List.Mem.head _))))))))
          have lz := H.lt (w3.heap.size) 0 (.int .i64 1) (List.Mem.head _)
          go_wp2
          go_roundw
          case rel => exact ⟨j + 1, rfl, by omega, by omega, H⟩
          case measure => simp [intOf]; omega
    · have e : j = 21 := by omega
      subst e
      have cz0 := H.cell (w3.heap.size) 0 (.int .i64 1) (List.Mem.head _)
      have cz1 := H.cell (w3.heap.size) 1 (.int .i64 m) (List.Mem.tail _ (List.Mem.head _))
      have cz2 := H.cell (w3.heap.size) 2 (.int .i64 d) (List.Mem.tail _ (List.Mem.tail _ (List.Mem.head _)))
      have cz3 := H.cell (w3.heap.size) 3 (.int .i64 5) (List.Mem.tail _ (List.Mem.tail _ (List.Mem.tail _ (List.Mem.head _))))
      have cz4 := H.cell (w3.heap.size) 4 (.int .i64 o) (List.Mem.tail _ (List.Mem.tail _ (List.Mem.tail _ (List.Mem.tail _ (List.Mem.head _)))))
      have cz5 := H.cell (w3.heap.size) 5 (.int .i64 0) (List.Mem.tail _ (List.Mem.tail _ (List.Mem.tail _ (List.Mem.tail _ (List.Mem.tail _ (List.Mem.head _))))))
      have cz6 := H.cell (w3.heap.size) 6 (.int .i64 f) (List.Mem.tail _ (List.Mem.tail _ (List.Mem.tail _ (List.Mem.tail _ (List.Mem.tail _ (List.Mem.tail _ (List.Mem.head _)))))))
      have cz7 := H.cell (w3.heap.size) 7 (.int .i64 t) (List.Mem.tail _ (List.Mem.tail _ (List.Mem.tail _ (List.Mem.tail _ (List.Mem.tail _ (List.Mem.tail _ (List.Mem.tail _ (List.Mem.head _))))))))
      have lz := H.lt (w3.heap.size) 0 (.int .i64 1) (List.Mem.head _)
      go_wp2_with fail
      clear cz0 cz1 cz2 cz3 cz4 cz5 cz6 cz7 lz
      (with_reducible refine (K.is 1 m d 5 o 0 f t n true _ (H.factsU (List.Mem.tail _ (List.Mem.tail _ (List.Mem.tail _ (List.Mem.tail _ (List.Mem.tail _ (List.Mem.tail _ (List.Mem.tail _ (List.Mem.tail _ (List.Mem.tail _ (List.Mem.tail _ (List.Mem.tail _ (List.Mem.tail _ (List.Mem.tail _ (List.Mem.tail _ (List.Mem.tail _ (List.Mem.tail _ (List.Mem.tail _ (List.Mem.tail _ (List.Mem.tail _ (List.Mem.tail _ (List.Mem.tail _ (List.Mem.tail _ (List.Mem.tail _ (List.Mem.tail _ (List.Mem.tail _ (List.Mem.tail _ (List.Mem.tail _ (List.Mem.tail _ (List.Mem.tail _ (List.Mem.tail _ (List.Mem.tail _ (List.Mem.tail _ (List.Mem.head _)))))))))))))))))))))))))))))))))) MP.out ⟨fun _ => HI.out, fun _ => rfl⟩).mono ?_)
      rintro e2 w8 ⟨rfl, hb⟩
      replace H := H.below hb
      clear hb
      go_wp2
      go_ret
      exact ⟨rfl, H.old⟩

set_option maxHeartbeats 8000000 in
set_option maxRecDepth 100000 in
theorem rumany_fivef (K : RWay) (k m d q o s f t i y n : Int) (w : World) (hL : FactsU w) (bi : 0 ≤ i ∧ i < 65536) (hk0 : k = 1) (hq1 : q = 5)  (h : Ru.mb ⟨k, m, d, q, o, s, f, t⟩ = true) (hM : Ru.May ⟨k, m, d, q, o, s, f, t⟩) (ft : 1 ≤ f ∧ f ≤ t ∧ t ≤ 9999) (hw : wrap64 (f + i % (t - f + 1)) = y) (ha : Ru.bas ⟨k, m, d, q, o, s, f, t⟩ y = n) (hab : decide (0 < n) = false) :
    Calls Tryd.prog 6 #[.agg #[.int .i64 k, .int .i64 m, .int .i64 d, .int .i64 q, .int .i64 o, .int .i64 s, .int .i64 f, .int .i64 t], .int .u16 i] w fun e w' => e = .returned (.bool true) ∧ Below w.heap.size w w' := by
  have H := (Held.start w).add (f := factsUF) hL
  clear hL
  have HM := Lib.hid h
  have MM := Lib.hid hM
  have HW := Lib.hid hw
  have HA := Lib.hid ha
  have AB := Lib.hid hab
  clear h hM hw ha hab
  subst hk0
  subst hq1
  go_enter Tryd.func6, Tryd.ntmps6
  go_wp2_with fail
  replace H := (H.oct (w.heap.size) (.int .i64 1) (.int .i64 m) (.int .i64 d) (.int .i64 5) (.int .i64 o) (.int .i64 s) (.int .i64 f) (.int .i64 t) 23 rfl)
  (with_reducible refine (rushown_any K _ (H.factsU (List.Mem.tail _ (List.Mem.tail _ (List.Mem.tail _ (List.Mem.tail _ (List.Mem.tail _ (List.Mem.tail _ (List.Mem.tail _ (List.Mem.tail _ (List.Mem.tail _ (List.Mem.tail _ (List.Mem.tail _ (List.Mem.tail _ (List.Mem.tail _ (List.Mem.tail _ (List.Mem.tail _ (List.Mem.tail _ (List.Mem.head _))))))))))))))))))).mono ?_)
  rintro e w1 ⟨rfl, hb⟩
  replace H := H.below hb
  clear hb
  have cr0 := H.cell (w.heap.size) 0 (.int .i64 1) (List.Mem.head _)
  have cr1 := H.cell (w.heap.size) 1 (.int .i64 m) (List.Mem.tail _ (List.Mem.head _))
  have cr2 := H.cell (w.heap.size) 2 (.int .i64 d) (List.Mem.tail _ (List.Mem.tail _ (List.Mem.head _)))
  have cr3 := H.cell (w.heap.size) 3 (.int .i64 5) (List.Mem.tail _ (List.Mem.tail _ (List.Mem.tail _ (List.Mem.head _))))
  have cr4 := H.cell (w.heap.size) 4 (.int .i64 o) (List.Mem.tail _ (List.Mem.tail _ (List.Mem.tail _ (List.Mem.tail _ (List.Mem.head _)))))
  have cr5 := H.cell (w.heap.size) 5 (.int .i64 s) (List.Mem.tail _ (List.Mem.tail _ (List.Mem.tail _ (List.Mem.tail _ (List.Mem.tail _ (List.Mem.head _))))))
  have cr6 := H.cell (w.heap.size) 6 (.int .i64 f) (List.Mem.tail _ (List.Mem.tail _ (List.Mem.tail _ (List.Mem.tail _ (List.Mem.tail _ (List.Mem.tail _ (List.Mem.head _)))))))
  have cr7 := H.cell (w.heap.size) 7 (.int .i64 t) (List.Mem.tail _ (List.Mem.tail _ (List.Mem.tail _ (List.Mem.tail _ (List.Mem.tail _ (List.Mem.tail _ (List.Mem.tail _ (List.Mem.head _))))))))
  have lr := H.lt (w.heap.size) 0 (.int .i64 1) (List.Mem.head _)
  go_wp2_with fail
  clear cr0 cr1 cr2 cr3 cr4 cr5 cr6 cr7 lr
  (with_reducible refine (rumay_any 1 m d 5 o s f t true _ HM.out).mono ?_)
  rintro e w2 ⟨rfl, hb⟩
  replace H := H.below hb
  clear hb
  have cr0 := H.cell (w.heap.size) 0 (.int .i64 1) (List.Mem.head _)
  have cr1 := H.cell (w.heap.size) 1 (.int .i64 m) (List.Mem.tail _ (List.Mem.head _))
  have cr2 := H.cell (w.heap.size) 2 (.int .i64 d) (List.Mem.tail _ (List.Mem.tail _ (List.Mem.head _)))
  have cr3 := H.cell (w.heap.size) 3 (.int .i64 5) (List.Mem.tail _ (List.Mem.tail _ (List.Mem.tail _ (List.Mem.head _))))
  have cr4 := H.cell (w.heap.size) 4 (.int .i64 o) (List.Mem.tail _ (List.Mem.tail _ (List.Mem.tail _ (List.Mem.tail _ (List.Mem.head _)))))
  have cr5 := H.cell (w.heap.size) 5 (.int .i64 s) (List.Mem.tail _ (List.Mem.tail _ (List.Mem.tail _ (List.Mem.tail _ (List.Mem.tail _ (List.Mem.head _))))))
  have cr6 := H.cell (w.heap.size) 6 (.int .i64 f) (List.Mem.tail _ (List.Mem.tail _ (List.Mem.tail _ (List.Mem.tail _ (List.Mem.tail _ (List.Mem.tail _ (List.Mem.head _)))))))
  have cr7 := H.cell (w.heap.size) 7 (.int .i64 t) (List.Mem.tail _ (List.Mem.tail _ (List.Mem.tail _ (List.Mem.tail _ (List.Mem.tail _ (List.Mem.tail _ (List.Mem.tail _ (List.Mem.head _))))))))
  have lr := H.lt (w.heap.size) 0 (.int .i64 1) (List.Mem.head _)
  go_wp2_with fail
  clear cr0 cr1 cr2 cr3 cr4 cr5 cr6 cr7 lr
  have cr0 := H.cell (w.heap.size) 0 (.int .i64 1) (List.Mem.head _)
  have cr1 := H.cell (w.heap.size) 1 (.int .i64 m) (List.Mem.tail _ (List.Mem.head _))
  have cr2 := H.cell (w.heap.size) 2 (.int .i64 d) (List.Mem.tail _ (List.Mem.tail _ (List.Mem.head _)))
  have cr3 := H.cell (w.heap.size) 3 (.int .i64 5) (List.Mem.tail _ (List.Mem.tail _ (List.Mem.tail _ (List.Mem.head _))))
  have cr4 := H.cell (w.heap.size) 4 (.int .i64 o) (List.Mem.tail _ (List.Mem.tail _ (List.Mem.tail _ (List.Mem.tail _ (List.Mem.head _)))))
  have cr5 := H.cell (w.heap.size) 5 (.int .i64 s) (List.Mem.tail _ (List.Mem.tail _ (List.Mem.tail _ (List.Mem.tail _ (List.Mem.tail _ (List.Mem.head _))))))
  have cr6 := H.cell (w.heap.size) 6 (.int .i64 f) (List.Mem.tail _ (List.Mem.tail _ (List.Mem.tail _ (List.Mem.tail _ (List.Mem.tail _ (List.Mem.tail _ (List.Mem.head _)))))))
  have cr7 := H.cell (w.heap.size) 7 (.int .i64 t) (List.Mem.tail _ (List.Mem.tail _ (List.Mem.tail _ (List.Mem.tail _ (List.Mem.tail _ (List.Mem.tail _ (List.Mem.tail _ (List.Mem.head _))))))))
  have lr := H.lt (w.heap.size) 0 (.int .i64 1) (List.Mem.head _)
  go_quiet (fail)
  go_wp2_with fail
  clear cr0 cr1 cr2 cr3 cr4 cr5 cr6 cr7 lr
  replace H := H.drewN nq
  rw [HW.out]
  (with_reducible refine (K.base 1 m d 5 o s f t y n false _ (H.factsU (List.Mem.tail _ (List.Mem.tail _ (List.Mem.tail _ (List.Mem.tail _ (List.Mem.tail _ (List.Mem.tail _ (List.Mem.tail _ (List.Mem.tail _ (List.Mem.tail _ (List.Mem.tail _ (List.Mem.tail _ (List.Mem.tail _ (List.Mem.tail _ (List.Mem.tail _ (List.Mem.tail _ (List.Mem.tail _ (List.Mem.head _)))))))))))))))))) MM.out HA.out AB.out).mono ?_)
  rintro e w3 ⟨rfl, hb⟩
  replace H := H.below hb
  clear hb
  have cr0 := H.cell (w.heap.size) 0 (.int .i64 1) (List.Mem.head _)
  have cr1 := H.cell (w.heap.size) 1 (.int .i64 m) (List.Mem.tail _ (List.Mem.head _))
  have cr2 := H.cell (w.heap.size) 2 (.int .i64 d) (List.Mem.tail _ (List.Mem.tail _ (List.Mem.head _)))
  have cr3 := H.cell (w.heap.size) 3 (.int .i64 5) (List.Mem.tail _ (List.Mem.tail _ (List.Mem.tail _ (List.Mem.head _))))
  have cr4 := H.cell (w.heap.size) 4 (.int .i64 o) (List.Mem.tail _ (List.Mem.tail _ (List.Mem.tail _ (List.Mem.tail _ (List.Mem.head _)))))
  have cr5 := H.cell (w.heap.size) 5 (.int .i64 s) (List.Mem.tail _ (List.Mem.tail _ (List.Mem.tail _ (List.Mem.tail _ (List.Mem.tail _ (List.Mem.head _))))))
  have cr6 := H.cell (w.heap.size) 6 (.int .i64 f) (List.Mem.tail _ (List.Mem.tail _ (List.Mem.tail _ (List.Mem.tail _ (List.Mem.tail _ (List.Mem.tail _ (List.Mem.head _)))))))
  have cr7 := H.cell (w.heap.size) 7 (.int .i64 t) (List.Mem.tail _ (List.Mem.tail _ (List.Mem.tail _ (List.Mem.tail _ (List.Mem.tail _ (List.Mem.tail _ (List.Mem.tail _ (List.Mem.head _))))))))
  have lr := H.lt (w.heap.size) 0 (.int .i64 1) (List.Mem.head _)
  go_wp2_with fail
  clear cr0 cr1 cr2 cr3 cr4 cr5 cr6 cr7 lr
  go_ret
  exact ⟨rfl, H.old⟩

set_option maxHeartbeats 8000000 in
set_option maxRecDepth 100000 in
theorem rumany_four (K : RWay) (k m d q o s f t i y n : Int) (w : World) (hL : FactsU w) (bi : 0 ≤ i ∧ i < 65536) (hk0 : k = 1) (hq2 : q ≠ 5) (h : Ru.mb ⟨k, m, d, q, o, s, f, t⟩ = true) (hM : Ru.May ⟨k, m, d, q, o, s, f, t⟩) (ft : 1 ≤ f ∧ f ≤ t ∧ t ≤ 9999) (hw : wrap64 (f + i % (t - f + 1)) = y) (ha : Ru.bas ⟨k, m, d, q, o, s, f, t⟩ y = n) (hab : decide (0 < n) = true) (hP : Ru.May ⟨k, m, d, q, o, 0, f, t⟩) (hI : Ru.Is ⟨k, m, d, q, o, 0, f, t⟩ n) (hX : ∀ j, -20 ≤ j → j ≤ 20 → j ≠ 0 → ¬ Ru.Is ⟨k, m, d, q, o, 0, f, t⟩ (n + j)) (nb : 1 ≤ n ∧ n ≤ 3652059) :
    Calls Tryd.prog 6 #[.agg #[.int .i64 k, .int .i64 m, .int .i64 d, .int .i64 q, .int .i64 o, .int .i64 s, .int .i64 f, .int .i64 t], .int .u16 i] w fun e w' => e = .returned (.bool true) ∧ Below w.heap.size w w' := by
  have H := (Held.start w).add (f := factsUF) hL
  clear hL
  have HM := Lib.hid h
  have MM := Lib.hid hM
  have HW := Lib.hid hw
  have HA := Lib.hid ha
  have AB := Lib.hid hab
  have MP := Lib.hid hP
  have HI := Lib.hid hI
  have HX := Lib.hid hX
  clear h hM hw ha hab hP hI hX
  subst hk0
  have q2 : (q == 5) = false := by simpa using hq2
  go_enter Tryd.func6, Tryd.ntmps6
  go_wp2_with fail
  replace H := (H.oct (w.heap.size) (.int .i64 1) (.int .i64 m) (.int .i64 d) (.int .i64 q) (.int .i64 o) (.int .i64 s) (.int .i64 f) (.int .i64 t) 23 rfl)
  (with_reducible refine (rushown_any K _ (H.factsU (List.Mem.tail _ (List.Mem.tail _ (List.Mem.tail _ (List.Mem.tail _ (List.Mem.tail _ (List.Mem.tail _ (List.Mem.tail _ (List.Mem.tail _ (List.Mem.tail _ (List.Mem.tail _ (List.Mem.tail _ (List.Mem.tail _ (List.Mem.tail _ (List.Mem.tail _ (List.Mem.tail _ (List.Mem.tail _ (List.Mem.head _))))))))))))))))))).mono ?_)
  rintro e w1 ⟨rfl, hb⟩
  replace H := H.below hb
  clear hb
  have cr0 := H.cell (w.heap.size) 0 (.int .i64 1) (List.Mem.head _)
  have cr1 := H.cell (w.heap.size) 1 (.int .i64 m) (List.Mem.tail _ (List.Mem.head _))
  have cr2 := H.cell (w.heap.size) 2 (.int .i64 d) (List.Mem.tail _ (List.Mem.tail _ (List.Mem.head _)))
  have cr3 := H.cell (w.heap.size) 3 (.int .i64 q) (List.Mem.tail _ (List.Mem.tail _ (List.Mem.tail _ (List.Mem.head _))))
  have cr4 := H.cell (w.heap.size) 4 (.int .i64 o) (List.Mem.tail _ (List.Mem.tail _ (List.Mem.tail _ (List.Mem.tail _ (List.Mem.head _)))))
  have cr5 := H.cell (w.heap.size) 5 (.int .i64 s) (List.Mem.tail _ (List.Mem.tail _ (List.Mem.tail _ (List.Mem.tail _ (List.Mem.tail _ (List.Mem.head _))))))
  have cr6 := H.cell (w.heap.size) 6 (.int .i64 f) (List.Mem.tail _ (List.Mem.tail _ (List.Mem.tail _ (List.Mem.tail _ (List.Mem.tail _ (List.Mem.tail _ (List.Mem.head _)))))))
  have cr7 := H.cell (w.heap.size) 7 (.int .i64 t) (List.Mem.tail _ (List.Mem.tail _ (List.Mem.tail _ (List.Mem.tail _ (List.Mem.tail _ (List.Mem.tail _ (List.Mem.tail _ (List.Mem.head _))))))))
  have lr := H.lt (w.heap.size) 0 (.int .i64 1) (List.Mem.head _)
  go_wp2_with fail
  clear cr0 cr1 cr2 cr3 cr4 cr5 cr6 cr7 lr
  (with_reducible refine (rumay_any 1 m d q o s f t true _ HM.out).mono ?_)
  rintro e w2 ⟨rfl, hb⟩
  replace H := H.below hb
  clear hb
  have cr0 := H.cell (w.heap.size) 0 (.int .i64 1) (List.Mem.head _)
  have cr1 := H.cell (w.heap.size) 1 (.int .i64 m) (List.Mem.tail _ (List.Mem.head _))
  have cr2 := H.cell (w.heap.size) 2 (.int .i64 d) (List.Mem.tail _ (List.Mem.tail _ (List.Mem.head _)))
  have cr3 := H.cell (w.heap.size) 3 (.int .i64 q) (List.Mem.tail _ (List.Mem.tail _ (List.Mem.tail _ (List.Mem.head _))))
  have cr4 := H.cell (w.heap.size) 4 (.int .i64 o) (List.Mem.tail _ (List.Mem.tail _ (List.Mem.tail _ (List.Mem.tail _ (List.Mem.head _)))))
  have cr5 := H.cell (w.heap.size) 5 (.int .i64 s) (List.Mem.tail _ (List.Mem.tail _ (List.Mem.tail _ (List.Mem.tail _ (List.Mem.tail _ (List.Mem.head _))))))
  have cr6 := H.cell (w.heap.size) 6 (.int .i64 f) (List.Mem.tail _ (List.Mem.tail _ (List.Mem.tail _ (List.Mem.tail _ (List.Mem.tail _ (List.Mem.tail _ (List.Mem.head _)))))))
  have cr7 := H.cell (w.heap.size) 7 (.int .i64 t) (List.Mem.tail _ (List.Mem.tail _ (List.Mem.tail _ (List.Mem.tail _ (List.Mem.tail _ (List.Mem.tail _ (List.Mem.tail _ (List.Mem.head _))))))))
  have lr := H.lt (w.heap.size) 0 (.int .i64 1) (List.Mem.head _)
  go_wp2_with fail
  clear cr0 cr1 cr2 cr3 cr4 cr5 cr6 cr7 lr
  have cr0 := H.cell (w.heap.size) 0 (.int .i64 1) (List.Mem.head _)
  have cr1 := H.cell (w.heap.size) 1 (.int .i64 m) (List.Mem.tail _ (List.Mem.head _))
  have cr2 := H.cell (w.heap.size) 2 (.int .i64 d) (List.Mem.tail _ (List.Mem.tail _ (List.Mem.head _)))
  have cr3 := H.cell (w.heap.size) 3 (.int .i64 q) (List.Mem.tail _ (List.Mem.tail _ (List.Mem.tail _ (List.Mem.head _))))
  have cr4 := H.cell (w.heap.size) 4 (.int .i64 o) (List.Mem.tail _ (List.Mem.tail _ (List.Mem.tail _ (List.Mem.tail _ (List.Mem.head _)))))
  have cr5 := H.cell (w.heap.size) 5 (.int .i64 s) (List.Mem.tail _ (List.Mem.tail _ (List.Mem.tail _ (List.Mem.tail _ (List.Mem.tail _ (List.Mem.head _))))))
  have cr6 := H.cell (w.heap.size) 6 (.int .i64 f) (List.Mem.tail _ (List.Mem.tail _ (List.Mem.tail _ (List.Mem.tail _ (List.Mem.tail _ (List.Mem.tail _ (List.Mem.head _)))))))
  have cr7 := H.cell (w.heap.size) 7 (.int .i64 t) (List.Mem.tail _ (List.Mem.tail _ (List.Mem.tail _ (List.Mem.tail _ (List.Mem.tail _ (List.Mem.tail _ (List.Mem.tail _ (List.Mem.head _))))))))
  have lr := H.lt (w.heap.size) 0 (.int .i64 1) (List.Mem.head _)
  go_quiet (fail)
  go_wp2_with fail
  clear cr0 cr1 cr2 cr3 cr4 cr5 cr6 cr7 lr
  replace H := H.drewN nq
  rw [HW.out]
  (with_reducible refine (K.base 1 m d q o s f t y n true _ (H.factsU (List.Mem.tail _ (List.Mem.tail _ (List.Mem.tail _ (List.Mem.tail _ (List.Mem.tail _ (List.Mem.tail _ (List.Mem.tail _ (List.Mem.tail _ (List.Mem.tail _ (List.Mem.tail _ (List.Mem.tail _ (List.Mem.tail _ (List.Mem.tail _ (List.Mem.tail _ (List.Mem.tail _ (List.Mem.tail _ (List.Mem.head _)))))))))))))))))) MM.out HA.out AB.out).mono ?_)
  rintro e w3 ⟨rfl, hb⟩
  replace H := H.below hb
  clear hb
  have cr0 := H.cell (w.heap.size) 0 (.int .i64 1) (List.Mem.head _)
  have cr1 := H.cell (w.heap.size) 1 (.int .i64 m) (List.Mem.tail _ (List.Mem.head _))
  have cr2 := H.cell (w.heap.size) 2 (.int .i64 d) (List.Mem.tail _ (List.Mem.tail _ (List.Mem.head _)))
  have cr3 := H.cell (w.heap.size) 3 (.int .i64 q) (List.Mem.tail _ (List.Mem.tail _ (List.Mem.tail _ (List.Mem.head _))))
  have cr4 := H.cell (w.heap.size) 4 (.int .i64 o) (List.Mem.tail _ (List.Mem.tail _ (List.Mem.tail _ (List.Mem.tail _ (List.Mem.head _)))))
  have cr5 := H.cell (w.heap.size) 5 (.int .i64 s) (List.Mem.tail _ (List.Mem.tail _ (List.Mem.tail _ (List.Mem.tail _ (List.Mem.tail _ (List.Mem.head _))))))
  have cr6 := H.cell (w.heap.size) 6 (.int .i64 f) (List.Mem.tail _ (List.Mem.tail _ (List.Mem.tail _ (List.Mem.tail _ (List.Mem.tail _ (List.Mem.tail _ (List.Mem.head _)))))))
  have cr7 := H.cell (w.heap.size) 7 (.int .i64 t) (List.Mem.tail _ (List.Mem.tail _ (List.Mem.tail _ (List.Mem.tail _ (List.Mem.tail _ (List.Mem.tail _ (List.Mem.tail _ (List.Mem.head _))))))))
  have lr := H.lt (w.heap.size) 0 (.int .i64 1) (List.Mem.head _)
  go_wp2_with fail
  clear cr0 cr1 cr2 cr3 cr4 cr5 cr6 cr7 lr
  replace H := (H.oct (w3.heap.size) (.int .i64 1) (.int .i64 m) (.int .i64 d) (.int .i64 q) (.int .i64 o) (.int .i64 0) (.int .i64 f) (.int .i64 t) 23 rfl)
  go_loopw [11] (fun u W' => ∃ j : Int, u = .int .i64 j ∧ -20 ≤ j ∧ j ≤ 21 ∧ Held w [.cell (w3.heap.size) 0 (.int .i64 1), .cell (w3.heap.size) 1 (.int .i64 m), .cell (w3.heap.size) 2 (.int .i64 d), .cell (w3.heap.size) 3 (.int .i64 q), .cell (w3.heap.size) 4 (.int .i64 o), .cell (w3.heap.size) 5 (.int .i64 0), .cell (w3.heap.size) 6 (.int .i64 f), .cell (w3.heap.size) 7 (.int .i64 t), .free (w3.heap.size) 0, .free (w3.heap.size) 1, .free (w3.heap.size) 2, .free (w3.heap.size) 3, .free (w3.heap.size) 4, .free (w3.heap.size) 5, .free (w3.heap.size) 6, .free (w3.heap.size) 7, .cell (w.heap.size) 0 (.int .i64 1), .cell (w.heap.size) 1 (.int .i64 m), .cell (w.heap.size) 2 (.int .i64 d), .cell (w.heap.size) 3 (.int .i64 q), .cell (w.heap.size) 4 (.int .i64 o), .cell (w.heap.size) 5 (.int .i64 s), .cell (w.heap.size) 6 (.int .i64 f), .cell (w.heap.size) 7 (.int .i64 t), .free (w.heap.size) 0, .free (w.heap.size) 1, .free (w.heap.size) 2, .free (w.heap.size) 3, .free (w.heap.size) 4, .free (w.heap.size) 5, .free (w.heap.size) 6, .free (w.heap.size) 7, factsUF] W') (fun u _ => (21 - intOf u).toNat)
  case atStart => exact ⟨-20, rfl, by omega, by omega, H⟩
  case round =>
    clear H
    obtain ⟨j, rfl, j1, j2, H⟩ := hrel
    by_cases hj : j ≤ 20
    · by_cases j0 : j = 0
      · subst j0
        have cz0 := H.cell (w3.heap.size) 0 (.int .i64 1) (List.Mem.head _)
        have cz1 := H.cell (w3.heap.size) 1 (.int .i64 m) (List.Mem.tail _ (List.Mem.head _))
        have cz2 := H.cell (w3.heap.size) 2 (.int .i64 d) (List.Mem.tail _ (List.Mem.tail _ (List.Mem.head _)))
        have cz3 := H.cell (w3.heap.size) 3 (.int .i64 q) (List.Mem.tail _ (List.Mem.tail _ (List.Mem.tail _ (List.Mem.head _))))
        have cz4 := H.cell (w3.heap.size) 4 (.int .i64 o) (List.Mem.tail _ (List.Mem.tail _ (List.Mem.tail _ (List.Mem.tail _ (List.Mem.head _)))))
        have cz5 := H.cell (w3.heap.size) 5 (.int .i64 0) (List.Mem.tail _ (List.Mem.tail _ (List.Mem.tail _ (List.Mem.tail _ (List.Mem.tail _ (List.Mem.head _))))))
        have cz6 := H.cell (w3.heap.size) 6 (.int .i64 f) (List.Mem.tail _ (List.Mem.tail _ (List.Mem.tail _ (List.Mem.tail _ (List.Mem.tail _ (List.Mem.tail _ (List.Mem.head _)))))))
        have cz7 := H.cell (w3.heap.size) 7 (.int .i64 t) (List.Mem.tail _ (List.Mem.tail _ (List.Mem.tail _ (List.Mem.tail _ (List.Mem.tail _ (List.Mem.tail _ (List.Mem.tail _ (List.Mem.head _))))))))
        have lz := H.lt (w3.heap.size) 0 (.int .i64 1) (List.Mem.head _)
        go_wp2
        go_roundw
        case rel => exact ⟨0 + 1, rfl, by omega, by omega, H⟩
        case measure => simp [intOf]
      · have jz : (j != 0) = true := by simpa using j0
        have NI := Lib.hid (HX.out j j1 hj j0)
        clear j0
        obtain ⟨e, hD⟩ : ∃ e, Hid (decide (1 ≤ n + j ∧ n + j ≤ 3652059) = e) := ⟨_, Lib.hid rfl⟩
        have cz0 := H.cell (w3.heap.size) 0 (.int .i64 1) (List.Mem.head _)
        have cz1 := H.cell (w3.heap.size) 1 (.int .i64 m) (List.Mem.tail _ (List.Mem.head _))
        have cz2 := H.cell (w3.heap.size) 2 (.int .i64 d) (List.Mem.tail _ (List.Mem.tail _ (List.Mem.head _)))
        have cz3 := H.cell (w3.heap.size) 3 (.int .i64 q) (List.Mem.tail _ (List.Mem.tail _ (List.Mem.tail _ (List.Mem.head _))))
        have cz4 := H.cell (w3.heap.size) 4 (.int .i64 o) (List.Mem.tail _ (List.Mem.tail _ (List.Mem.tail _ (List.Mem.tail _ (List.Mem.head _)))))
        have cz5 := H.cell (w3.heap.size) 5 (.int .i64 0) (List.Mem.tail _ (List.Mem.tail _ (List.Mem.tail _ (List.Mem.tail _ (List.Mem.tail _ (List.Mem.head _))))))
        have cz6 := H.cell (w3.heap.size) 6 (.int .i64 f) (List.Mem.tail _ (List.Mem.tail _ (List.Mem.tail _ (List.Mem.tail _ (List.Mem.tail _ (List.Mem.tail _ (List.Mem.head _)))))))
        have cz7 := H.cell (w3.heap.size) 7 (.int .i64 t) (List.Mem.tail _ (List.Mem.tail _ (List.Mem.tail _ (List.Mem.tail _ (List.Mem.tail _ (List.Mem.tail _ (List.Mem.tail _ (List.Mem.head _))))))))
        have lz := H.lt (w3.heap.size) 0 (.int .i64 1) (List.Mem.head _)
        go_wp2_with fail
        clear cz0 cz1 cz2 cz3 cz4 cz5 cz6 cz7 lz
        (with_reducible refine (rday12_is (n + j) e _ hD.out).mono ?_)
        rintro e2 w7 ⟨rfl, hb⟩
        replace H := H.below hb
        clear hb
        have cz0 := H.cell (w3.heap.size) 0 (.int .i64 1) (List.Mem.head _)
        have cz1 := H.cell (w3.heap.size) 1 (.int .i64 m) (List.Mem.tail _ (List.Mem.head _))
        have cz2 := H.cell (w3.heap.size) 2 (.int .i64 d) (List.Mem.tail _ (List.Mem.tail _ (List.Mem.head _)))
        have cz3 := H.cell (w3.heap.size) 3 (.int .i64 q) (List.Mem.tail _ (List.Mem.tail _ (List.Mem.tail _ (List.Mem.head _))))
        have cz4 := H.cell (w3.heap.size) 4 (.int .i64 o) (List.Mem.tail _ (List.Mem.tail _ (List.Mem.tail _ (List.Mem.tail _ (List.Mem.head _)))))
        have cz5 := H.cell (w3.heap.size) 5 (.int .i64 0) (List.Mem.tail _ (List.Mem.tail _ (List.Mem.tail _ (List.Mem.tail _ (List.Mem.tail _ (List.Mem.head _))))))
        have cz6 := H.cell (w3.heap.size) 6 (.int .i64 f) (List.Mem.tail _ (List.Mem.tail _ (List.Mem.tail _ (List.Mem.tail _ (List.Mem.tail _ (List.Mem.tail _ (List.Mem.head _)))))))
        have cz7 := H.cell (w3.heap.size) 7 (.int .i64 t) (List.Mem.tail _ (List.Mem.tail _ (List.Mem.tail _ (List.Mem.tail _ (List.Mem.tail _ (List.Mem.tail _ (List.Mem.tail _ (List.Mem.head _))))))))
        have lz := H.lt (w3.heap.size) 0 (.int .i64 1) (List.Mem.head _)
        cases e
        · go_wp2
          go_roundw
          case rel => exact ⟨j + 1, rfl, by omega, by omega, H⟩
          case measure => simp [intOf]; omega
        · go_wp2_with fail
          clear cz0 cz1 cz2 cz3 cz4 cz5 cz6 cz7 lz
          (with_reducible refine (K.is 1 m d q o 0 f t (n + j) false _ (H.factsU (List.Mem.tail _ (List.Mem.tail _ (List.Mem.tail _ (List.Mem.tail _ (List.Mem.tail _ (List.Mem.tail _ (List.Mem.tail _ (List.Mem.tail _ (List.Mem.tail _ (List.Mem.tail _ (List.Mem.tail _ (List.Mem.tail _ (List.Mem.tail _ (List.Mem.tail _ (List.Mem.tail _ (List.Mem.tail _ (List.Mem.tail _ (List.Mem.tail _ (List.Mem.tail _ (List.Mem.tail _ (List.Mem.tail _ (List.Mem.tail _ (List.Mem.tail _ (List.Mem.tail _ (List.Mem.tail _ (List.Mem.tail _ (List.Mem.tail _ (List.Mem.tail _ (List.Mem.tail _ (List.Mem.tail _ (List.Mem.tail _ (List.Mem.tail _ (List.Mem.head _)))))))))))))))))))))))))))))))))) MP.out ⟨fun c => absurd c (by decide), fun c => absurd c NI.out⟩).mono ?_)
          rintro e2 w8 ⟨rfl, hb⟩
          replace H := H.below hb
          clear hb
          have cz0 := H.cell (w3.heap.size) 0 (.int .i64 1) (List.Mem.head _)
          have cz1 := H.cell (w3.heap.size) 1 (.int .i64 m) (List.Mem.tail _ (List.Mem.head _))
          have cz2 := H.cell (w3.heap.size) 2 (.int .i64 d) (List.Mem.tail _ (List.Mem.tail _ (List.Mem.head _)))
          have cz3 := H.cell (w3.heap.size) 3 (.int .i64 q) (List.Mem.tail _ (List.Mem.tail _ (List.Mem.tail _ (List.Mem.head _))))
          have cz4 := H.cell (w3.heap.size) 4 (.int .i64 o) (List.Mem.tail _ (List.Mem.tail _ (List.Mem.tail _ (List.Mem.tail _ (List.Mem.head _)))))
          have cz5 := H.cell (w3.heap.size) 5 (.int .i64 0) (List.Mem.tail _ (List.Mem.tail _ (List.Mem.tail _ (List.Mem.tail _ (List.Mem.tail _ (List.Mem.head _))))))
          have cz6 := H.cell (w3.heap.size) 6 (.int .i64 f) (List.Mem.tail _ (List.Mem.tail _ (List.Mem.tail _ (List.Mem.tail _ (List.Mem.tail _ (List.Mem.tail _ (List.Mem.head _)))))))
          have cz7 := H.cell (w3.heap.size) 7 (.int .i64 t) (List.Mem.tail _ (List.Mem.tail _ (List.Mem.tail _ (List.Mem.tail _ (List.Mem.tail _ (List.Mem.tail _ (List.Mem.tail _ (List.Mem.head _))))))))
          have lz := H.lt (w3.heap.size) 0 (.int .i64 1) (List.Mem.head _)
          go_wp2
          go_roundw
          case rel => exact ⟨j + 1, rfl, by omega, by omega, H⟩
          case measure => simp [intOf]; omega
    · have e : j = 21 := by omega
      subst e
      have cz0 := H.cell (w3.heap.size) 0 (.int .i64 1) (List.Mem.head _)
      have cz1 := H.cell (w3.heap.size) 1 (.int .i64 m) (List.Mem.tail _ (List.Mem.head _))
      have cz2 := H.cell (w3.heap.size) 2 (.int .i64 d) (List.Mem.tail _ (List.Mem.tail _ (List.Mem.head _)))
      have cz3 := H.cell (w3.heap.size) 3 (.int .i64 q) (List.Mem.tail _ (List.Mem.tail _ (List.Mem.tail _ (List.Mem.head _))))
      have cz4 := H.cell (w3.heap.size) 4 (.int .i64 o) (List.Mem.tail _ (List.Mem.tail _ (List.Mem.tail _ (List.Mem.tail _ (List.Mem.head _)))))
      have cz5 := H.cell (w3.heap.size) 5 (.int .i64 0) (List.Mem.tail _ (List.Mem.tail _ (List.Mem.tail _ (List.Mem.tail _ (List.Mem.tail _ (List.Mem.head _))))))
      have cz6 := H.cell (w3.heap.size) 6 (.int .i64 f) (List.Mem.tail _ (List.Mem.tail _ (List.Mem.tail _ (List.Mem.tail _ (List.Mem.tail _ (List.Mem.tail _ (List.Mem.head _)))))))
      have cz7 := H.cell (w3.heap.size) 7 (.int .i64 t) (List.Mem.tail _ (List.Mem.tail _ (List.Mem.tail _ (List.Mem.tail _ (List.Mem.tail _ (List.Mem.tail _ (List.Mem.tail _ (List.Mem.head _))))))))
      have lz := H.lt (w3.heap.size) 0 (.int .i64 1) (List.Mem.head _)
      go_wp2_with fail
      clear cz0 cz1 cz2 cz3 cz4 cz5 cz6 cz7 lz
      (with_reducible refine (K.is 1 m d q o 0 f t n true _ (H.factsU (List.Mem.tail _ (List.Mem.tail _ (List.Mem.tail _ (List.Mem.tail _ (List.Mem.tail _ (List.Mem.tail _ (List.Mem.tail _ (List.Mem.tail _ (List.Mem.tail _ (List.Mem.tail _ (List.Mem.tail _ (List.Mem.tail _ (List.Mem.tail _ (List.Mem.tail _ (List.Mem.tail _ (List.Mem.tail _ (List.Mem.tail _ (List.Mem.tail _ (List.Mem.tail _ (List.Mem.tail _ (List.Mem.tail _ (List.Mem.tail _ (List.Mem.tail _ (List.Mem.tail _ (List.Mem.tail _ (List.Mem.tail _ (List.Mem.tail _ (List.Mem.tail _ (List.Mem.tail _ (List.Mem.tail _ (List.Mem.tail _ (List.Mem.tail _ (List.Mem.head _)))))))))))))))))))))))))))))))))) MP.out ⟨fun _ => HI.out, fun _ => rfl⟩).mono ?_)
      rintro e2 w8 ⟨rfl, hb⟩
      replace H := H.below hb
      clear hb
      go_wp2
      go_ret
      exact ⟨rfl, H.old⟩

theorem plain_inn (k m d q o s f t y : Int) (h : Ru.May ⟨k, m, d, q, o, s, f, t⟩) : Ru.inn ⟨k, m, d, q, o, 0, f, t⟩ y = Ru.bas ⟨k, m, d, q, o, s, f, t⟩ y := by
  have e : Ru.bas ⟨k, m, d, q, o, 0, f, t⟩ y = Ru.bas ⟨k, m, d, q, o, s, f, t⟩ y := by unfold Ru.bas; rfl
  have b := bas_bd y h
  unfold Ru.inn
  rw [e]
  simp only
  have e2 : shd 0 (Ru.bas ⟨k, m, d, q, o, s, f, t⟩ y) = Ru.bas ⟨k, m, d, q, o, s, f, t⟩ y := by unfold shd; simp
  rw [e2]
  by_cases c : 0 < Ru.bas ⟨k, m, d, q, o, s, f, t⟩ y ∧ 1 ≤ Ru.bas ⟨k, m, d, q, o, s, f, t⟩ y ∧ Ru.bas ⟨k, m, d, q, o, s, f, t⟩ y ≤ 3652059
  · rw [if_pos c]
  · rw [if_neg c]; omega
theorem plain_may (k m d q o s f t : Int) (h : Ru.May ⟨k, m, d, q, o, s, f, t⟩) : Ru.May ⟨k, m, d, q, o, 0, f, t⟩ := ⟨h.1, ⟨by simp, by simp⟩, h.2.2⟩
theorem plain_is (k m d q o s f t y n : Int) (h : Ru.May ⟨k, m, d, q, o, s, f, t⟩) (hn : Ru.bas ⟨k, m, d, q, o, s, f, t⟩ y = n) (h0 : 0 < n) (hk : k ≠ 3) : Ru.Is ⟨k, m, d, q, o, 0, f, t⟩ n ∧ ∀ j, -20 ≤ j → j ≤ 20 → j ≠ 0 → ¬ Ru.Is ⟨k, m, d, q, o, 0, f, t⟩ (n + j) := by
  refine ⟨⟨h0, y, (plain_inn k m d q o s f t y h).trans hn⟩, fun j j1 j2 j0 g => ?_⟩
  obtain ⟨g0, z, hz⟩ := g
  rw [plain_inn k m d q o s f t z h] at hz
  by_cases e : z = y
  · subst e; omega
  · by_cases l : y < z
    · have := bas_apart h hk (by rw [hn]; exact h0) (by rw [hz]; exact g0) l
      omega
    · have := bas_apart (y := z) (z := y) h hk (by rw [hz]; exact g0) (by rw [hn]; exact h0) (by omega)
      omega

theorem rumany_walk (K : RWay) (k m d q o s f t i : Int) (w : World) (hL : FactsU w) (hk : -9223372036854775808 ≤ k ∧ k < 9223372036854775808) (hm : -9223372036854775808 ≤ m ∧ m < 9223372036854775808) (hd : -9223372036854775808 ≤ d ∧ d < 9223372036854775808) (hq : -9223372036854775808 ≤ q ∧ q < 9223372036854775808) (ho : -9223372036854775808 ≤ o ∧ o < 9223372036854775808) (hs : -9223372036854775808 ≤ s ∧ s < 9223372036854775808) (hf : -9223372036854775808 ≤ f ∧ f < 9223372036854775808) (ht : -9223372036854775808 ≤ t ∧ t < 9223372036854775808) (bi : 0 ≤ i ∧ i < 65536) :
    Calls Tryd.prog 6 #[.agg #[.int .i64 k, .int .i64 m, .int .i64 d, .int .i64 q, .int .i64 o, .int .i64 s, .int .i64 f, .int .i64 t], .int .u16 i] w fun e w' => e = .returned (.bool true) ∧ Below w.heap.size w w' := by
  by_cases h : Ru.May ⟨k, m, d, q, o, s, f, t⟩
  · by_cases k3 : k = 3
    · exact rumany_east K k m d q o s f t i w hL bi k3 (ru_yes h)
    · obtain ⟨g1, g2, g3, g4, g5, g6, g7, g8⟩ := id h
      simp only at g1 g2 g3 g4 g5 g6 g7 g8
      obtain ⟨z, hz⟩ : ∃ z, i % (t - f + 1) = z := ⟨_, rfl⟩
      have z0 : 0 ≤ z := by rw [← hz]; exact Int.emod_nonneg _ (by omega)
      have z1 : z < t - f + 1 := by rw [← hz]; exact Int.emod_lt_of_pos _ (by omega)
      obtain ⟨y, hy⟩ : ∃ y, f + z = y := ⟨_, rfl⟩
      have hw : wrap64 (f + i % (t - f + 1)) = y := by rw [hz, hy]; exact wrap_plain (by omega)
      have yb : f ≤ y ∧ y ≤ t := by omega
      obtain ⟨n, hn⟩ : ∃ n, Ru.bas ⟨k, m, d, q, o, s, f, t⟩ y = n := ⟨_, rfl⟩
      have nb := bas_bd y h
      rw [hn] at nb
      have yes : 0 < n → decide (0 < n) = true := fun g => decide_eq_true g
      have I := fun g : 0 < n => plain_is k m d q o s f t y n h hn g k3
      have PM := plain_may k m d q o s f t h
      by_cases k0 : k = 0
      · have mf := many_fixed (y := y) h k0 yb
        rw [hn] at mf
        simp only at mf
        by_cases m2 : m = 2
        · by_cases d2 : d = 29
          · have mm := mf.1 ⟨m2, d2⟩
            cases hl : lp y with
            | true =>
              have g := mm.2 hl
              exact rumany_leapt K k m d q o s f t i y n w hL bi k0 m2 d2 (ru_yes h) h g3 hw hn (yes g) hl PM (I g).1 (I g).2 (by omega)
            | false =>
              have g : ¬ 0 < n := fun c => by have := mm.1 c; rw [hl] at this; cases this
              exact rumany_leapf K k m d q o s f t i y n w hL bi k0 m2 d2 (ru_yes h) h g3 hw hn (decide_eq_false g) hl
          · have g := mf.2 (fun c => d2 c.2)
            exact rumany_fixd K k m d q o s f t i y n w hL bi k0 m2 d2 (ru_yes h) h g3 hw hn (yes g) PM (I g).1 (I g).2 (by omega)
        · have g := mf.2 (fun c => m2 c.1)
          exact rumany_fixm K k m d q o s f t i y n w hL bi k0 m2 (ru_yes h) h g3 hw hn (yes g) PM (I g).1 (I g).2 (by omega)
      · by_cases k1 : k = 1
        · by_cases q5 : q = 5
          · by_cases g : 0 < n
            · exact rumany_fivet K k m d q o s f t i y n w hL bi k1 q5 (ru_yes h) h g3 hw hn (yes g) PM (I g).1 (I g).2 (by omega)
            · exact rumany_fivef K k m d q o s f t i y n w hL bi k1 q5 (ru_yes h) h g3 hw hn (decide_eq_false g)
          · have g := many_nth (y := y) h k1 yb q5
            rw [hn] at g
            exact rumany_four K k m d q o s f t i y n w hL bi k1 q5 (ru_yes h) h g3 hw hn (yes g) PM (I g).1 (I g).2 (by omega)
        · have k2 : k = 2 := by omega
          have g := many_last (y := y) h k2 yb
          rw [hn] at g
          exact rumany_last K k m d q o s f t i y n w hL bi k2 (ru_yes h) h g3 hw hn (yes g) PM (I g).1 (I g).2 (by omega)
  · exact rumany_no K k m d q o s f t i w hL bi (ru_no h)
end Go.Proofs.YtdnpljljjnjmdaaDoor
