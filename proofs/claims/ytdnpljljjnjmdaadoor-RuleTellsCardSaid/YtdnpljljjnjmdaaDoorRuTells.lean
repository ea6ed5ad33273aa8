/- RuleTells: the walk. -/
import Derived.Test.YtdnpljljjnjmdaaDoorRuShown
namespace Go.Proofs.YtdnpljljjnjmdaaDoor
open Go.RowKit
set_option linter.unusedVariables false
set_option linter.unusedSimpArgs false


set_option maxHeartbeats 8000000 in
set_option maxRecDepth 100000 in
theorem rutells_no (K : RWay) (k m d q o s f t y n : Int) (w : World) (hL : FactsU w) (h : Ru.mb ⟨k, m, d, q, o, s, f, t⟩ = false) :
    Calls Tryd.prog 3 #[.agg #[.int .i64 k, .int .i64 m, .int .i64 d, .int .i64 q, .int .i64 o, .int .i64 s, .int .i64 f, .int .i64 t], .int .i64 y, .int .i64 n] w fun e w' => e = .returned (.bool true) ∧ Below w.heap.size w w' := by
  have H := (Held.start w).add (f := factsUF) hL
  clear hL
  have HM := Lib.hid h
  clear h
  go_enter Tryd.func3, Tryd.ntmps3
  go_wp2_with fail
  replace H := (H.oct (w.heap.size) (.int .i64 k) (.int .i64 m) (.int .i64 d) (.int .i64 q) (.int .i64 o) (.int .i64 s) (.int .i64 f) (.int .i64 t) 23 rfl)
  (with_reducible refine (rushown_any K _ (H.factsU (List.Mem.tail _ (List.Mem.tail _ (List.Mem.tail _ (List.Mem.tail _ (List.Mem.tail _ (List.Mem.tail _ (List.Mem.tail _ (List.Mem.tail _ (List.Mem.tail _ (List.Mem.tail _ (List.Mem.tail _ (List.Mem.tail _ (List.Mem.tail _ (List.Mem.tail _ (List.Mem.tail _ (List.Mem.tail _ (List.Mem.head _))))))))))))))))))).mono ?_)
  rintro e w1 ⟨rfl, hb⟩
  replace H := H.below hb
  clear hb
  have cr0 := H.cell (w.heap.size) 0 (.int .i64 k) (List.Mem.head _)
  have cr1 := H.cell (w.heap.size) 1 (.int .i64 m) (List.Mem.tail _ (List.Mem.head _))
  have cr2 := H.cell (w.heap.size) 2 (.int .i64 d) (List.Mem.tail _ (List.Mem.tail _ (List.Mem.head _)))
  have cr3 := H.cell (w.heap.size) 3 (.int .i64 q) (List.Mem.tail _ (List.Mem.tail _ (List.Mem.tail _ (List.Mem.head _))))
  have cr4 := H.cell (w.heap.size) 4 (.int .i64 o) (List.Mem.tail _ (List.Mem.tail _ (List.Mem.tail _ (List.Mem.tail _ (List.Mem.head _)))))
  have cr5 := H.cell (w.heap.size) 5 (.int .i64 s) (List.Mem.tail _ (List.Mem.tail _ (List.Mem.tail _ (List.Mem.tail _ (List.Mem.tail _ (List.Mem.head _))))))
  have cr6 := H.cell (w.heap.size) 6 (.int .i64 f) (List.Mem.tail _ (List.Mem.tail _ (List.Mem.tail _ (List.Mem.tail _ (List.Mem.tail _ (List.Mem.tail _ (List.Mem.head _)))))))
  have cr7 := H.cell (w.heap.size) 7 (.int .i64 t) (List.Mem.tail _ (List.Mem.tail _ (List.Mem.tail _ (List.Mem.tail _ (List.Mem.tail _ (List.Mem.tail _ (List.Mem.tail _ (List.Mem.head _))))))))
  have lr := H.lt (w.heap.size) 0 (.int .i64 k) (List.Mem.head _)
  go_wp2_with fail
  clear cr0 cr1 cr2 cr3 cr4 cr5 cr6 cr7 lr
  (with_reducible refine (rumay_any k m d q o s f t false _ HM.out).mono ?_)
  rintro e w2 ⟨rfl, hb⟩
  replace H := H.below hb
  clear hb
  have cr0 := H.cell (w.heap.size) 0 (.int .i64 k) (List.Mem.head _)
  have cr1 := H.cell (w.heap.size) 1 (.int .i64 m) (List.Mem.tail _ (List.Mem.head _))
  have cr2 := H.cell (w.heap.size) 2 (.int .i64 d) (List.Mem.tail _ (List.Mem.tail _ (List.Mem.head _)))
  have cr3 := H.cell (w.heap.size) 3 (.int .i64 q) (List.Mem.tail _ (List.Mem.tail _ (List.Mem.tail _ (List.Mem.head _))))
  have cr4 := H.cell (w.heap.size) 4 (.int .i64 o) (List.Mem.tail _ (List.Mem.tail _ (List.Mem.tail _ (List.Mem.tail _ (List.Mem.head _)))))
  have cr5 := H.cell (w.heap.size) 5 (.int .i64 s) (List.Mem.tail _ (List.Mem.tail _ (List.Mem.tail _ (List.Mem.tail _ (List.Mem.tail _ (List.Mem.head _))))))
  have cr6 := H.cell (w.heap.size) 6 (.int .i64 f) (List.Mem.tail _ (List.Mem.tail _ (List.Mem.tail _ (List.Mem.tail _ (List.Mem.tail _ (List.Mem.tail _ (List.Mem.head _)))))))
  have cr7 := H.cell (w.heap.size) 7 (.int .i64 t) (List.Mem.tail _ (List.Mem.tail _ (List.Mem.tail _ (List.Mem.tail _ (List.Mem.tail _ (List.Mem.tail _ (List.Mem.tail _ (List.Mem.head _))))))))
  have lr := H.lt (w.heap.size) 0 (.int .i64 k) (List.Mem.head _)
  go_wp2_with fail
  clear cr0 cr1 cr2 cr3 cr4 cr5 cr6 cr7 lr
  (with_reducible refine (K.may k m d q o s f t false _ (H.factsU (List.Mem.tail _ (List.Mem.tail _ (List.Mem.tail _ (List.Mem.tail _ (List.Mem.tail _ (List.Mem.tail _ (List.Mem.tail _ (List.Mem.tail _ (List.Mem.tail _ (List.Mem.tail _ (List.Mem.tail _ (List.Mem.tail _ (List.Mem.tail _ (List.Mem.tail _ (List.Mem.tail _ (List.Mem.tail _ (List.Mem.head _)))))))))))))))))) HM.out).mono ?_)
  rintro e w3 ⟨rfl, hb⟩
  replace H := H.below hb
  clear hb
  have cr0 := H.cell (w.heap.size) 0 (.int .i64 k) (List.Mem.head _)
  have cr1 := H.cell (w.heap.size) 1 (.int .i64 m) (List.Mem.tail _ (List.Mem.head _))
  have cr2 := H.cell (w.heap.size) 2 (.int .i64 d) (List.Mem.tail _ (List.Mem.tail _ (List.Mem.head _)))
  have cr3 := H.cell (w.heap.size) 3 (.int .i64 q) (List.Mem.tail _ (List.Mem.tail _ (List.Mem.tail _ (List.Mem.head _))))
  have cr4 := H.cell (w.heap.size) 4 (.int .i64 o) (List.Mem.tail _ (List.Mem.tail _ (List.Mem.tail _ (List.Mem.tail _ (List.Mem.head _)))))
  have cr5 := H.cell (w.heap.size) 5 (.int .i64 s) (List.Mem.tail _ (List.Mem.tail _ (List.Mem.tail _ (List.Mem.tail _ (List.Mem.tail _ (List.Mem.head _))))))
  have cr6 := H.cell (w.heap.size) 6 (.int .i64 f) (List.Mem.tail _ (List.Mem.tail _ (List.Mem.tail _ (List.Mem.tail _ (List.Mem.tail _ (List.Mem.tail _ (List.Mem.head _)))))))
  have cr7 := H.cell (w.heap.size) 7 (.int .i64 t) (List.Mem.tail _ (List.Mem.tail _ (List.Mem.tail _ (List.Mem.tail _ (List.Mem.tail _ (List.Mem.tail _ (List.Mem.tail _ (List.Mem.head _))))))))
  have lr := H.lt (w.heap.size) 0 (.int .i64 k) (List.Mem.head _)
  go_wp2_with fail
  clear cr0 cr1 cr2 cr3 cr4 cr5 cr6 cr7 lr
  go_ret
  exact ⟨rfl, H.old⟩

set_option maxHeartbeats 8000000 in
set_option maxRecDepth 100000 in
theorem rutells_in (K : RWay) (k m d q o s f t y n a c : Int) (ab cb b : Bool) (w : World) (hL : FactsU w) (h : Ru.mb ⟨k, m, d, q, o, s, f, t⟩ = true) (hM : Ru.May ⟨k, m, d, q, o, s, f, t⟩) (ha : Ru.bas ⟨k, m, d, q, o, s, f, t⟩ y = a) (hab : decide (0 < a) = ab) (hc : Ru.inn ⟨k, m, d, q, o, s, f, t⟩ y = c) (hcb : decide (0 < c) = cb) (hb : b = true ↔ Ru.Is ⟨k, m, d, q, o, s, f, t⟩ n) :
    Calls Tryd.prog 3 #[.agg #[.int .i64 k, .int .i64 m, .int .i64 d, .int .i64 q, .int .i64 o, .int .i64 s, .int .i64 f, .int .i64 t], .int .i64 y, .int .i64 n] w fun e w' => e = .returned (.bool true) ∧ Below w.heap.size w w' := by
  have H := (Held.start w).add (f := factsUF) hL
  clear hL
  have HM := Lib.hid h
  have MM := Lib.hid hM
  have HA := Lib.hid ha
  have AB := Lib.hid hab
  have HC := Lib.hid hc
  have CB := Lib.hid hcb
  have HB := Lib.hid hb
  clear h hM ha hab hc hcb hb
  go_enter Tryd.func3, Tryd.ntmps3
  go_wp2_with fail
  replace H := (H.oct (w.heap.size) (.int .i64 k) (.int .i64 m) (.int .i64 d) (.int .i64 q) (.int .i64 o) (.int .i64 s) (.int .i64 f) (.int .i64 t) 23 rfl)
  (with_reducible refine (rushown_any K _ (H.factsU (List.Mem.tail _ (List.Mem.tail _ (List.Mem.tail _ (List.Mem.tail _ (List.Mem.tail _ (List.Mem.tail _ (List.Mem.tail _ (List.Mem.tail _ (List.Mem.tail _ (List.Mem.tail _ (List.Mem.tail _ (List.Mem.tail _ (List.Mem.tail _ (List.Mem.tail _ (List.Mem.tail _ (List.Mem.tail _ (List.Mem.head _))))))))))))))))))).mono ?_)
  rintro e w1 ⟨rfl, hb⟩
  replace H := H.below hb
  clear hb
  have cr0 := H.cell (w.heap.size) 0 (.int .i64 k) (List.Mem.head _)
  have cr1 := H.cell (w.heap.size) 1 (.int .i64 m) (List.Mem.tail _ (List.Mem.head _))
  have cr2 := H.cell (w.heap.size) 2 (.int .i64 d) (List.Mem.tail _ (List.Mem.tail _ (List.Mem.head _)))
  have cr3 := H.cell (w.heap.size) 3 (.int .i64 q) (List.Mem.tail _ (List.Mem.tail _ (List.Mem.tail _ (List.Mem.head _))))
  have cr4 := H.cell (w.heap.size) 4 (.int .i64 o) (List.Mem.tail _ (List.Mem.tail _ (List.Mem.tail _ (List.Mem.tail _ (List.Mem.head _)))))
  have cr5 := H.cell (w.heap.size) 5 (.int .i64 s) (List.Mem.tail _ (List.Mem.tail _ (List.Mem.tail _ (List.Mem.tail _ (List.Mem.tail _ (List.Mem.head _))))))
  have cr6 := H.cell (w.heap.size) 6 (.int .i64 f) (List.Mem.tail _ (List.Mem.tail _ (List.Mem.tail _ (List.Mem.tail _ (List.Mem.tail _ (List.Mem.tail _ (List.Mem.head _)))))))
  have cr7 := H.cell (w.heap.size) 7 (.int .i64 t) (List.Mem.tail _ (List.Mem.tail _ (List.Mem.tail _ (List.Mem.tail _ (List.Mem.tail _ (List.Mem.tail _ (List.Mem.tail _ (List.Mem.head _))))))))
  have lr := H.lt (w.heap.size) 0 (.int .i64 k) (List.Mem.head _)
  go_wp2_with fail
  clear cr0 cr1 cr2 cr3 cr4 cr5 cr6 cr7 lr
  (with_reducible refine (rumay_any k m d q o s f t true _ HM.out).mono ?_)
  rintro e w2 ⟨rfl, hb⟩
  replace H := H.below hb
  clear hb
  have cr0 := H.cell (w.heap.size) 0 (.int .i64 k) (List.Mem.head _)
  have cr1 := H.cell (w.heap.size) 1 (.int .i64 m) (List.Mem.tail _ (List.Mem.head _))
  have cr2 := H.cell (w.heap.size) 2 (.int .i64 d) (List.Mem.tail _ (List.Mem.tail _ (List.Mem.head _)))
  have cr3 := H.cell (w.heap.size) 3 (.int .i64 q) (List.Mem.tail _ (List.Mem.tail _ (List.Mem.tail _ (List.Mem.head _))))
  have cr4 := H.cell (w.heap.size) 4 (.int .i64 o) (List.Mem.tail _ (List.Mem.tail _ (List.Mem.tail _ (List.Mem.tail _ (List.Mem.head _)))))
  have cr5 := H.cell (w.heap.size) 5 (.int .i64 s) (List.Mem.tail _ (List.Mem.tail _ (List.Mem.tail _ (List.Mem.tail _ (List.Mem.tail _ (List.Mem.head _))))))
  have cr6 := H.cell (w.heap.size) 6 (.int .i64 f) (List.Mem.tail _ (List.Mem.tail _ (List.Mem.tail _ (List.Mem.tail _ (List.Mem.tail _ (List.Mem.tail _ (List.Mem.head _)))))))
  have cr7 := H.cell (w.heap.size) 7 (.int .i64 t) (List.Mem.tail _ (List.Mem.tail _ (List.Mem.tail _ (List.Mem.tail _ (List.Mem.tail _ (List.Mem.tail _ (List.Mem.tail _ (List.Mem.head _))))))))
  have lr := H.lt (w.heap.size) 0 (.int .i64 k) (List.Mem.head _)
  go_wp2_with fail
  clear cr0 cr1 cr2 cr3 cr4 cr5 cr6 cr7 lr
  (with_reducible refine (K.may k m d q o s f t true _ (H.factsU (List.Mem.tail _ (List.Mem.tail _ (List.Mem.tail _ (List.Mem.tail _ (List.Mem.tail _ (List.Mem.tail _ (List.Mem.tail _ (List.Mem.tail _ (List.Mem.tail _ (List.Mem.tail _ (List.Mem.tail _ (List.Mem.tail _ (List.Mem.tail _ (List.Mem.tail _ (List.Mem.tail _ (List.Mem.tail _ (List.Mem.head _)))))))))))))))))) HM.out).mono ?_)
  rintro e w3 ⟨rfl, hb⟩
  replace H := H.below hb
  clear hb
  have cr0 := H.cell (w.heap.size) 0 (.int .i64 k) (List.Mem.head _)
  have cr1 := H.cell (w.heap.size) 1 (.int .i64 m) (List.Mem.tail _ (List.Mem.head _))
  have cr2 := H.cell (w.heap.size) 2 (.int .i64 d) (List.Mem.tail _ (List.Mem.tail _ (List.Mem.head _)))
  have cr3 := H.cell (w.heap.size) 3 (.int .i64 q) (List.Mem.tail _ (List.Mem.tail _ (List.Mem.tail _ (List.Mem.head _))))
  have cr4 := H.cell (w.heap.size) 4 (.int .i64 o) (List.Mem.tail _ (List.Mem.tail _ (List.Mem.tail _ (List.Mem.tail _ (List.Mem.head _)))))
  have cr5 := H.cell (w.heap.size) 5 (.int .i64 s) (List.Mem.tail _ (List.Mem.tail _ (List.Mem.tail _ (List.Mem.tail _ (List.Mem.tail _ (List.Mem.head _))))))
  have cr6 := H.cell (w.heap.size) 6 (.int .i64 f) (List.Mem.tail _ (List.Mem.tail _ (List.Mem.tail _ (List.Mem.tail _ (List.Mem.tail _ (List.Mem.tail _ (List.Mem.head _)))))))
  have cr7 := H.cell (w.heap.size) 7 (.int .i64 t) (List.Mem.tail _ (List.Mem.tail _ (List.Mem.tail _ (List.Mem.tail _ (List.Mem.tail _ (List.Mem.tail _ (List.Mem.tail _ (List.Mem.head _))))))))
  have lr := H.lt (w.heap.size) 0 (.int .i64 k) (List.Mem.head _)
  go_wp2_with fail
  clear cr0 cr1 cr2 cr3 cr4 cr5 cr6 cr7 lr
  (with_reducible refine (K.base k m d q o s f t y a ab _ (H.factsU (List.Mem.tail _ (List.Mem.tail _ (List.Mem.tail _ (List.Mem.tail _ (List.Mem.tail _ (List.Mem.tail _ (List.Mem.tail _ (List.Mem.tail _ (List.Mem.tail _ (List.Mem.tail _ (List.Mem.tail _ (List.Mem.tail _ (List.Mem.tail _ (List.Mem.tail _ (List.Mem.tail _ (List.Mem.tail _ (List.Mem.head _)))))))))))))))))) MM.out HA.out AB.out).mono ?_)
  rintro e w4 ⟨rfl, hb⟩
  replace H := H.below hb
  clear hb
  have cr0 := H.cell (w.heap.size) 0 (.int .i64 k) (List.Mem.head _)
  have cr1 := H.cell (w.heap.size) 1 (.int .i64 m) (List.Mem.tail _ (List.Mem.head _))
  have cr2 := H.cell (w.heap.size) 2 (.int .i64 d) (List.Mem.tail _ (List.Mem.tail _ (List.Mem.head _)))
  have cr3 := H.cell (w.heap.size) 3 (.int .i64 q) (List.Mem.tail _ (List.Mem.tail _ (List.Mem.tail _ (List.Mem.head _))))
  have cr4 := H.cell (w.heap.size) 4 (.int .i64 o) (List.Mem.tail _ (List.Mem.tail _ (List.Mem.tail _ (List.Mem.tail _ (List.Mem.head _)))))
  have cr5 := H.cell (w.heap.size) 5 (.int .i64 s) (List.Mem.tail _ (List.Mem.tail _ (List.Mem.tail _ (List.Mem.tail _ (List.Mem.tail _ (List.Mem.head _))))))
  have cr6 := H.cell (w.heap.size) 6 (.int .i64 f) (List.Mem.tail _ (List.Mem.tail _ (List.Mem.tail _ (List.Mem.tail _ (List.Mem.tail _ (List.Mem.tail _ (List.Mem.head _)))))))
  have cr7 := H.cell (w.heap.size) 7 (.int .i64 t) (List.Mem.tail _ (List.Mem.tail _ (List.Mem.tail _ (List.Mem.tail _ (List.Mem.tail _ (List.Mem.tail _ (List.Mem.tail _ (List.Mem.head _))))))))
  have lr := H.lt (w.heap.size) 0 (.int .i64 k) (List.Mem.head _)
  go_wp2_with fail
  clear cr0 cr1 cr2 cr3 cr4 cr5 cr6 cr7 lr
  (with_reducible refine (rubase_any k m d q o s f t y a ab _ MM.out HA.out AB.out).mono ?_)
  rintro e w5 ⟨rfl, hb⟩
  replace H := H.below hb
  clear hb
  have cr0 := H.cell (w.heap.size) 0 (.int .i64 k) (List.Mem.head _)
  have cr1 := H.cell (w.heap.size) 1 (.int .i64 m) (List.Mem.tail _ (List.Mem.head _))
  have cr2 := H.cell (w.heap.size) 2 (.int .i64 d) (List.Mem.tail _ (List.Mem.tail _ (List.Mem.head _)))
  have cr3 := H.cell (w.heap.size) 3 (.int .i64 q) (List.Mem.tail _ (List.Mem.tail _ (List.Mem.tail _ (List.Mem.head _))))
  have cr4 := H.cell (w.heap.size) 4 (.int .i64 o) (List.Mem.tail _ (List.Mem.tail _ (List.Mem.tail _ (List.Mem.tail _ (List.Mem.head _)))))
  have cr5 := H.cell (w.heap.size) 5 (.int .i64 s) (List.Mem.tail _ (List.Mem.tail _ (List.Mem.tail _ (List.Mem.tail _ (List.Mem.tail _ (List.Mem.head _))))))
  have cr6 := H.cell (w.heap.size) 6 (.int .i64 f) (List.Mem.tail _ (List.Mem.tail _ (List.Mem.tail _ (List.Mem.tail _ (List.Mem.tail _ (List.Mem.tail _ (List.Mem.head _)))))))
  have cr7 := H.cell (w.heap.size) 7 (.int .i64 t) (List.Mem.tail _ (List.Mem.tail _ (List.Mem.tail _ (List.Mem.tail _ (List.Mem.tail _ (List.Mem.tail _ (List.Mem.tail _ (List.Mem.head _))))))))
  have lr := H.lt (w.heap.size) 0 (.int .i64 k) (List.Mem.head _)
  go_wp2_with fail
  clear cr0 cr1 cr2 cr3 cr4 cr5 cr6 cr7 lr
  (with_reducible refine (K.inn k m d q o s f t y c cb _ (H.factsU (List.Mem.tail _ (List.Mem.tail _ (List.Mem.tail _ (List.Mem.tail _ (List.Mem.tail _ (List.Mem.tail _ (List.Mem.tail _ (List.Mem.tail _ (List.Mem.tail _ (List.Mem.tail _ (List.Mem.tail _ (List.Mem.tail _ (List.Mem.tail _ (List.Mem.tail _ (List.Mem.tail _ (List.Mem.tail _ (List.Mem.head _)))))))))))))))))) MM.out HC.out CB.out).mono ?_)
  rintro e w6 ⟨rfl, hb⟩
  replace H := H.below hb
  clear hb
  have cr0 := H.cell (w.heap.size) 0 (.int .i64 k) (List.Mem.head _)
  have cr1 := H.cell (w.heap.size) 1 (.int .i64 m) (List.Mem.tail _ (List.Mem.head _))
  have cr2 := H.cell (w.heap.size) 2 (.int .i64 d) (List.Mem.tail _ (List.Mem.tail _ (List.Mem.head _)))
  have cr3 := H.cell (w.heap.size) 3 (.int .i64 q) (List.Mem.tail _ (List.Mem.tail _ (List.Mem.tail _ (List.Mem.head _))))
  have cr4 := H.cell (w.heap.size) 4 (.int .i64 o) (List.Mem.tail _ (List.Mem.tail _ (List.Mem.tail _ (List.Mem.tail _ (List.Mem.head _)))))
  have cr5 := H.cell (w.heap.size) 5 (.int .i64 s) (List.Mem.tail _ (List.Mem.tail _ (List.Mem.tail _ (List.Mem.tail _ (List.Mem.tail _ (List.Mem.head _))))))
  have cr6 := H.cell (w.heap.size) 6 (.int .i64 f) (List.Mem.tail _ (List.Mem.tail _ (List.Mem.tail _ (List.Mem.tail _ (List.Mem.tail _ (List.Mem.tail _ (List.Mem.head _)))))))
  have cr7 := H.cell (w.heap.size) 7 (.int .i64 t) (List.Mem.tail _ (List.Mem.tail _ (List.Mem.tail _ (List.Mem.tail _ (List.Mem.tail _ (List.Mem.tail _ (List.Mem.tail _ (List.Mem.head _))))))))
  have lr := H.lt (w.heap.size) 0 (.int .i64 k) (List.Mem.head _)
  go_wp2_with fail
  clear cr0 cr1 cr2 cr3 cr4 cr5 cr6 cr7 lr
  (with_reducible refine (ruin_any k m d q o s f t y c cb _ MM.out HC.out CB.out).mono ?_)
  rintro e w7 ⟨rfl, hb⟩
  replace H := H.below hb
  clear hb
  go_wp2_with fail
  have KS : Hid (∀ w' : World, Held w [.cell (w.heap.size) 0 (.int .i64 k), .cell (w.heap.size) 1 (.int .i64 m), .cell (w.heap.size) 2 (.int .i64 d), .cell (w.heap.size) 3 (.int .i64 q), .cell (w.heap.size) 4 (.int .i64 o), .cell (w.heap.size) 5 (.int .i64 s), .cell (w.heap.size) 6 (.int .i64 f), .cell (w.heap.size) 7 (.int .i64 t), .free (w.heap.size) 0, .free (w.heap.size) 1, .free (w.heap.size) 2, .free (w.heap.size) 3, .free (w.heap.size) 4, .free (w.heap.size) 5, .free (w.heap.size) 6, .free (w.heap.size) 7, factsUF] w' → w'.cell? ⟨w.heap.size, 0, none⟩ = some (.int .i64 k) ∧ w'.cell? ⟨w.heap.size, 1, none⟩ = some (.int .i64 m) ∧ w'.cell? ⟨w.heap.size, 2, none⟩ = some (.int .i64 d) ∧ w'.cell? ⟨w.heap.size, 3, none⟩ = some (.int .i64 q) ∧ w'.cell? ⟨w.heap.size, 4, none⟩ = some (.int .i64 o) ∧ w'.cell? ⟨w.heap.size, 5, none⟩ = some (.int .i64 s) ∧ w'.cell? ⟨w.heap.size, 6, none⟩ = some (.int .i64 f) ∧ w'.cell? ⟨w.heap.size, 7, none⟩ = some (.int .i64 t) ∧ Held w [.cell (w.heap.size) 0 (.int .i64 k), .cell (w.heap.size) 1 (.int .i64 m), .cell (w.heap.size) 2 (.int .i64 d), .cell (w.heap.size) 3 (.int .i64 q), .cell (w.heap.size) 4 (.int .i64 o), .cell (w.heap.size) 5 (.int .i64 s), .cell (w.heap.size) 6 (.int .i64 f), .cell (w.heap.size) 7 (.int .i64 t), .free (w.heap.size) 0, .free (w.heap.size) 1, .free (w.heap.size) 2, .free (w.heap.size) 3, .free (w.heap.size) 4, .free (w.heap.size) 5, .free (w.heap.size) 6, .free (w.heap.size) 7, factsUF] w') := Lib.hid (fun _ h => ⟨h.cell (w.heap.size) 0 (.int .i64 k) (List.Mem.head _), h.cell (w.heap.size) 1 (.int .i64 m) (List.Mem.tail _ (List.Mem.head _)), h.cell (w.heap.size) 2 (.int .i64 d) (List.Mem.tail _ (List.Mem.tail _ (List.Mem.head _))), h.cell (w.heap.size) 3 (.int .i64 q) (List.Mem.tail _ (List.Mem.tail _ (List.Mem.tail _ (List.Mem.head _)))), h.cell (w.heap.size) 4 (.int .i64 o) (List.Mem.tail _ (List.Mem.tail _ (List.Mem.tail _ (List.Mem.tail _ (List.Mem.head _))))), h.cell (w.heap.size) 5 (.int .i64 s) (List.Mem.tail _ (List.Mem.tail _ (List.Mem.tail _ (List.Mem.tail _ (List.Mem.tail _ (List.Mem.head _)))))), h.cell (w.heap.size) 6 (.int .i64 f) (List.Mem.tail _ (List.Mem.tail _ (List.Mem.tail _ (List.Mem.tail _ (List.Mem.tail _ (List.Mem.tail _ (List.Mem.head _))))))), h.cell (w.heap.size) 7 (.int .i64 t) (List.Mem.tail _ (List.Mem.tail _ (List.Mem.tail _ (List.Mem.tail _ (List.Mem.tail _ (List.Mem.tail _ (List.Mem.tail _ (List.Mem.head _)))))))), h⟩)
  have KH : Hid (∀ w' : World, w'.cell? ⟨w.heap.size, 0, none⟩ = some (.int .i64 k) ∧ w'.cell? ⟨w.heap.size, 1, none⟩ = some (.int .i64 m) ∧ w'.cell? ⟨w.heap.size, 2, none⟩ = some (.int .i64 d) ∧ w'.cell? ⟨w.heap.size, 3, none⟩ = some (.int .i64 q) ∧ w'.cell? ⟨w.heap.size, 4, none⟩ = some (.int .i64 o) ∧ w'.cell? ⟨w.heap.size, 5, none⟩ = some (.int .i64 s) ∧ w'.cell? ⟨w.heap.size, 6, none⟩ = some (.int .i64 f) ∧ w'.cell? ⟨w.heap.size, 7, none⟩ = some (.int .i64 t) ∧ Held w [.cell (w.heap.size) 0 (.int .i64 k), .cell (w.heap.size) 1 (.int .i64 m), .cell (w.heap.size) 2 (.int .i64 d), .cell (w.heap.size) 3 (.int .i64 q), .cell (w.heap.size) 4 (.int .i64 o), .cell (w.heap.size) 5 (.int .i64 s), .cell (w.heap.size) 6 (.int .i64 f), .cell (w.heap.size) 7 (.int .i64 t), .free (w.heap.size) 0, .free (w.heap.size) 1, .free (w.heap.size) 2, .free (w.heap.size) 3, .free (w.heap.size) 4, .free (w.heap.size) 5, .free (w.heap.size) 6, .free (w.heap.size) 7, factsUF] w' → Held w [.cell (w.heap.size) 0 (.int .i64 k), .cell (w.heap.size) 1 (.int .i64 m), .cell (w.heap.size) 2 (.int .i64 d), .cell (w.heap.size) 3 (.int .i64 q), .cell (w.heap.size) 4 (.int .i64 o), .cell (w.heap.size) 5 (.int .i64 s), .cell (w.heap.size) 6 (.int .i64 f), .cell (w.heap.size) 7 (.int .i64 t), .free (w.heap.size) 0, .free (w.heap.size) 1, .free (w.heap.size) 2, .free (w.heap.size) 3, .free (w.heap.size) 4, .free (w.heap.size) 5, .free (w.heap.size) 6, .free (w.heap.size) 7, factsUF] w') := Lib.hid (fun _ h => h.2.2.2.2.2.2.2.2)
  have KU : Hid (∀ w' : World, w'.cell? ⟨w.heap.size, 0, none⟩ = some (.int .i64 k) ∧ w'.cell? ⟨w.heap.size, 1, none⟩ = some (.int .i64 m) ∧ w'.cell? ⟨w.heap.size, 2, none⟩ = some (.int .i64 d) ∧ w'.cell? ⟨w.heap.size, 3, none⟩ = some (.int .i64 q) ∧ w'.cell? ⟨w.heap.size, 4, none⟩ = some (.int .i64 o) ∧ w'.cell? ⟨w.heap.size, 5, none⟩ = some (.int .i64 s) ∧ w'.cell? ⟨w.heap.size, 6, none⟩ = some (.int .i64 f) ∧ w'.cell? ⟨w.heap.size, 7, none⟩ = some (.int .i64 t) ∧ Held w [.cell (w.heap.size) 0 (.int .i64 k), .cell (w.heap.size) 1 (.int .i64 m), .cell (w.heap.size) 2 (.int .i64 d), .cell (w.heap.size) 3 (.int .i64 q), .cell (w.heap.size) 4 (.int .i64 o), .cell (w.heap.size) 5 (.int .i64 s), .cell (w.heap.size) 6 (.int .i64 f), .cell (w.heap.size) 7 (.int .i64 t), .free (w.heap.size) 0, .free (w.heap.size) 1, .free (w.heap.size) 2, .free (w.heap.size) 3, .free (w.heap.size) 4, .free (w.heap.size) 5, .free (w.heap.size) 6, .free (w.heap.size) 7, factsUF] w' → FactsU w') := Lib.hid (fun w' h => (KH.out w' h).factsU (List.Mem.tail _ (List.Mem.tail _ (List.Mem.tail _ (List.Mem.tail _ (List.Mem.tail _ (List.Mem.tail _ (List.Mem.tail _ (List.Mem.tail _ (List.Mem.tail _ (List.Mem.tail _ (List.Mem.tail _ (List.Mem.tail _ (List.Mem.tail _ (List.Mem.tail _ (List.Mem.tail _ (List.Mem.tail _ (List.Mem.head _))))))))))))))))))
  have HS := Lib.hid (KS.out _ H.drew)
  go_region_held3 (fun w' => w'.cell? ⟨w.heap.size, 0, none⟩ = some (.int .i64 k) ∧ w'.cell? ⟨w.heap.size, 1, none⟩ = some (.int .i64 m) ∧ w'.cell? ⟨w.heap.size, 2, none⟩ = some (.int .i64 d) ∧ w'.cell? ⟨w.heap.size, 3, none⟩ = some (.int .i64 q) ∧ w'.cell? ⟨w.heap.size, 4, none⟩ = some (.int .i64 o) ∧ w'.cell? ⟨w.heap.size, 5, none⟩ = some (.int .i64 s) ∧ w'.cell? ⟨w.heap.size, 6, none⟩ = some (.int .i64 f) ∧ w'.cell? ⟨w.heap.size, 7, none⟩ = some (.int .i64 t) ∧ Held w [.cell (w.heap.size) 0 (.int .i64 k), .cell (w.heap.size) 1 (.int .i64 m), .cell (w.heap.size) 2 (.int .i64 d), .cell (w.heap.size) 3 (.int .i64 q), .cell (w.heap.size) 4 (.int .i64 o), .cell (w.heap.size) 5 (.int .i64 s), .cell (w.heap.size) 6 (.int .i64 f), .cell (w.heap.size) 7 (.int .i64 t), .free (w.heap.size) 0, .free (w.heap.size) 1, .free (w.heap.size) 2, .free (w.heap.size) 3, .free (w.heap.size) 4, .free (w.heap.size) 5, .free (w.heap.size) 6, .free (w.heap.size) 7, factsUF] w')
    (first | exact HS.out | (refine KS.out _ (Held.below (KH.out _ ?_) hb); assumption) | (refine KS.out _ (Held.alloc (KH.out _ ?_) _); assumption))
    (first
      | (go_at_call 16; (with_reducible refine (K.is k m d q o s f t n b _ (KU.out _ (by assumption)) MM.out HB.out).mono ?_); rintro e w' ⟨rfl, hb⟩)
      | (go_at_call 17; (with_reducible refine (ruis_any k m d q o s f t n b _ MM.out HB.out).mono ?_); rintro e w' ⟨rfl, hb⟩))
  all_goals
    go_wp2
    go_ret
    exact ⟨rfl, (KH.out _ (by assumption)).old⟩

theorem rutells_walk (K : RWay) (k m d q o s f t y n : Int) (w : World) (hL : FactsU w) (hk : -9223372036854775808 ≤ k ∧ k < 9223372036854775808) (hm : -9223372036854775808 ≤ m ∧ m < 9223372036854775808) (hd : -9223372036854775808 ≤ d ∧ d < 9223372036854775808) (hq : -9223372036854775808 ≤ q ∧ q < 9223372036854775808) (ho : -9223372036854775808 ≤ o ∧ o < 9223372036854775808) (hs : -9223372036854775808 ≤ s ∧ s < 9223372036854775808) (hf : -9223372036854775808 ≤ f ∧ f < 9223372036854775808) (ht : -9223372036854775808 ≤ t ∧ t < 9223372036854775808) (hy : -9223372036854775808 ≤ y ∧ y < 9223372036854775808) (hn : -9223372036854775808 ≤ n ∧ n < 9223372036854775808) :
    Calls Tryd.prog 3 #[.agg #[.int .i64 k, .int .i64 m, .int .i64 d, .int .i64 q, .int .i64 o, .int .i64 s, .int .i64 f, .int .i64 t], .int .i64 y, .int .i64 n] w fun e w' => e = .returned (.bool true) ∧ Below w.heap.size w w' := by
  by_cases h : Ru.May ⟨k, m, d, q, o, s, f, t⟩
  · obtain ⟨b, hb⟩ : ∃ b : Bool, (b = true ↔ Ru.Is ⟨k, m, d, q, o, s, f, t⟩ n) := by
      by_cases g : Ru.Is ⟨k, m, d, q, o, s, f, t⟩ n
      · exact ⟨true, fun _ => g, fun _ => rfl⟩
      · exact ⟨false, fun c => absurd c (by decide), fun c => absurd c g⟩
    exact rutells_in K k m d q o s f t y n _ _ _ _ b w hL (ru_yes h) h rfl rfl rfl rfl hb
  · exact rutells_no K k m d q o s f t y n w hL (ru_no h)
end Go.Proofs.YtdnpljljjnjmdaaDoor
