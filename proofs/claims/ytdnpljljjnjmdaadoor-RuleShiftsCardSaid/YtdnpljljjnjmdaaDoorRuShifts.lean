/- RuleShifts: the walk. -/
import Derived.Test.YtdnpljljjnjmdaaDoorRuShown
namespace Go.Proofs.YtdnpljljjnjmdaaDoor
open Go.RowKit
set_option linter.unusedVariables false
set_option linter.unusedSimpArgs false


set_option maxHeartbeats 8000000 in
set_option maxRecDepth 100000 in
theorem rushifts_no (K : RWay) (k m d q o s f t y : Int) (w : World) (hL : FactsU w) (h : Ru.mb ⟨k, m, d, q, o, s, f, t⟩ = false) :
    Calls Tryd.prog 4 #[.agg #[.int .i64 k, .int .i64 m, .int .i64 d, .int .i64 q, .int .i64 o, .int .i64 s, .int .i64 f, .int .i64 t], .int .i64 y] w fun e w' => e = .returned (.bool true) ∧ Below w.heap.size w w' := by
  have H := (Held.start w).add (f := factsUF) hL
  clear hL
  have HM := Lib.hid h
  clear h
  go_enter Tryd.func4, Tryd.ntmps4
  go_wp2_with fail
  replace H := (H.oct (w.heap.size) (.int .i64 k) (.int .i64 m) (.int .i64 d) (.int .i64 q) (.int .i64 o) (.int .i64 s) (.int .i64 f) (.int .i64 t) 23 rfl)
  (with_reducible refine (rushown_any K _ (H.factsU (List.Mem.tail _ (List.Mem.tail _ (List.Mem.tail _ (List.Mem.tail _ (List.Mem.tail _ (List.Mem.tail _ (List.Mem.tail _ (List.Mem.tail _ (List.Mem.tail _ (List.Mem.tail _ (List.Mem.tail _ (List.Mem.tail _ (List.Mem.tail _ (List.Mem.tail _ (List.Mem.tail _ (List.Mem.tail _ (List.Mem.head _))))))))))))))))))).mono ?_)
  rintro e w1 ⟨rfl, hb⟩
  replace H := H.below hb
  clear hb
  have cr0 := H.cell (w.heap.size) 0 (.int .i64 k) (List.Mem.head _)
  have cr1 := H.cell (w.heap.size) 1 (.int .i64 m) (List.Mem.tail _ (List.Mem.head _))
  have cr2 := H.cell (w.heap.size) 2 (.int .i64 d) (List.Mem.tail _ (List.Mem.tail _ (List.Mem.head _)))
  have cr3 := H.cell (w.heap.size) 3 (.int .i64 q) (List.Mem.tail _ (List.Mem.tail _ (List.Mem.tail _ (List.Mem.head _))))
  have cr4 := H.cell (w.heap.size) 4 (.int .i64 o) (List.Mem.tail _ (List.Mem.tail _ (List.Mem.tail _ (List.Mem.tail _ (List.Mem.head _)))))
  have cr5 := H.cell (w.heap.size) 5 (.int .i64 s) (List.Mem.tail _ (List.Mem.tail _ (List.Mem.tail _ (List.Mem.tail _ (List.Mem.tail _ (List.Mem.head _))))))
  have cr6 := H.cell (w.heap.size) 6 (.int .i64 f) (List.Mem.tail _ (List.Mem.tail _ (List.Mem.tail _ (List.Mem.tail _ (List.Mem.tail _ (List.Mem.tail _ (List.Mem.head _)))))))
  have cr7 := H.cell (w.heap.size) 7 (.int .i64 t) (List.Mem.tail _ (List.Mem.tail _ (List.Mem.tail _ (List.Mem.tail _ (List.Mem.tail _ (List.Mem.tail _ (List.Mem.tail _ (List.Mem.head _))))))))
  have lr := H.lt (w.heap.size) 0 (.int .i64 k) (List.Mem.head _)
  go_wp2_with fail
  clear cr0 cr1 cr2 cr3 cr4 cr5 cr6 cr7 lr
  (with_reducible refine (rumay_any k m d q o s f t false _ HM.out).mono ?_)
  rintro e w2 ⟨rfl, hb⟩
  replace H := H.below hb
  clear hb
  have cr0 := H.cell (w.heap.size) 0 (.int .i64 k) (List.Mem.head _)
  have cr1 := H.cell (w.heap.size) 1 (.int .i64 m) (List.Mem.tail _ (List.Mem.head _))
  have cr2 := H.cell (w.heap.size) 2 (.int .i64 d) (List.Mem.tail _ (List.Mem.tail _ (List.Mem.head _)))
  have cr3 := H.cell (w.heap.size) 3 (.int .i64 q) (List.Mem.tail _ (List.Mem.tail _ (List.Mem.tail _ (List.Mem.head _))))
  have cr4 := H.cell (w.heap.size) 4 (.int .i64 o) (List.Mem.tail _ (List.Mem.tail _ (List.Mem.tail _ (List.Mem.tail _ (List.Mem.head _)))))
  have cr5 := H.cell (w.heap.size) 5 (.int .i64 s) (List.Mem.tail _ (List.Mem.tail _ (List.Mem.tail _ (List.Mem.tail _ (List.Mem.tail _ (List.Mem.head _))))))
  have cr6 := H.cell (w.heap.size) 6 (.int .i64 f) (List.Mem.tail _ (List.Mem.tail _ (List.Mem.tail _ (List.Mem.tail _ (List.Mem.tail _ (List.Mem.tail _ (List.Mem.head _)))))))
  have cr7 := H.cell (w.heap.size) 7 (.int .i64 t) (List.Mem.tail _ (List.Mem.tail _ (List.Mem.tail _ (List.Mem.tail _ (List.Mem.tail _ (List.Mem.tail _ (List.Mem.tail _ (List.Mem.head _))))))))
  have lr := H.lt (w.heap.size) 0 (.int .i64 k) (List.Mem.head _)
  go_wp2_with fail
  clear cr0 cr1 cr2 cr3 cr4 cr5 cr6 cr7 lr
  go_ret
  exact ⟨rfl, H.old⟩

set_option maxHeartbeats 8000000 in
set_option maxRecDepth 100000 in
theorem rushifts_none (K : RWay) (k m d q o s f t y : Int) (w : World) (hL : FactsU w) (h : Ru.mb ⟨k, m, d, q, o, s, f, t⟩ = true) (hM : Ru.May ⟨k, m, d, q, o, s, f, t⟩) (ha : Ru.bas ⟨k, m, d, q, o, s, f, t⟩ y = 0) (hab : decide ((0:Int) < 0) = false) (hc : Ru.inn ⟨k, m, d, q, o, s, f, t⟩ y = 0) (hcb : decide ((0:Int) < 0) = false) :
    Calls Tryd.prog 4 #[.agg #[.int .i64 k, .int .i64 m, .int .i64 d, .int .i64 q, .int .i64 o, .int .i64 s, .int .i64 f, .int .i64 t], .int .i64 y] w fun e w' => e = .returned (.bool true) ∧ Below w.heap.size w w' := by
  have H := (Held.start w).add (f := factsUF) hL
  clear hL
  have HM := Lib.hid h
  have MM := Lib.hid hM
  have HA := Lib.hid ha
  have AB := Lib.hid hab
  have HC := Lib.hid hc
  have CB := Lib.hid hcb
  clear h hM ha hab hc hcb
  go_enter Tryd.func4, Tryd.ntmps4
  go_wp2_with fail
  replace H := (H.oct (w.heap.size) (.int .i64 k) (.int .i64 m) (.int .i64 d) (.int .i64 q) (.int .i64 o) (.int .i64 s) (.int .i64 f) (.int .i64 t) 23 rfl)
  (with_reducible refine (rushown_any K _ (H.factsU (List.Mem.tail _ (List.Mem.tail _ (List.Mem.tail _ (List.Mem.tail _ (List.Mem.tail _ (List.Mem.tail _ (List.Mem.tail _ (List.Mem.tail _ (List.Mem.tail _ (List.Mem.tail _ (List.Mem.tail _ (List.Mem.tail _ (List.Mem.tail _ (List.Mem.tail _ (List.Mem.tail _ (List.Mem.tail _ (List.Mem.head _))))))))))))))))))).mono ?_)
  rintro e w1 ⟨rfl, hb⟩
  replace H := H.below hb
  clear hb
  have cr0 := H.cell (w.heap.size) 0 (.int .i64 k) (List.Mem.head _)
  have cr1 := H.cell (w.heap.size) 1 (.int .i64 m) (List.Mem.tail _ (List.Mem.head _))
  have cr2 := H.cell (w.heap.size) 2 (.int .i64 d) (List.Mem.tail _ (List.Mem.tail _ (List.Mem.head _)))
  have cr3 := H.cell (w.heap.size) 3 (.int .i64 q) (List.Mem.tail _ (List.Mem.tail _ (List.Mem.tail _ (List.Mem.head _))))
  have cr4 := H.cell (w.heap.size) 4 (.int .i64 o) (List.Mem.tail _ (List.Mem.tail _ (List.Mem.tail _ (List.Mem.tail _ (List.Mem.head _)))))
  have cr5 := H.cell (w.heap.size) 5 (.int .i64 s) (List.Mem.tail _ (List.Mem.tail _ (List.Mem.tail _ (List.Mem.tail _ (List.Mem.tail _ (List.Mem.head _))))))
  have cr6 := H.cell (w.heap.size) 6 (.int .i64 f) (List.Mem.tail _ (List.Mem.tail _ (List.Mem.tail _ (List.Mem.tail _ (List.Mem.tail _ (List.Mem.tail _ (List.Mem.head _)))))))
  have cr7 := H.cell (w.heap.size) 7 (.int .i64 t) (List.Mem.tail _ (List.Mem.tail _ (List.Mem.tail _ (List.Mem.tail _ (List.Mem.tail _ (List.Mem.tail _ (List.Mem.tail _ (List.Mem.head _))))))))
  have lr := H.lt (w.heap.size) 0 (.int .i64 k) (List.Mem.head _)
  go_wp2_with fail
  clear cr0 cr1 cr2 cr3 cr4 cr5 cr6 cr7 lr
  (with_reducible refine (rumay_any k m d q o s f t true _ HM.out).mono ?_)
  rintro e w2 ⟨rfl, hb⟩
  replace H := H.below hb
  clear hb
  have cr0 := H.cell (w.heap.size) 0 (.int .i64 k) (List.Mem.head _)
  have cr1 := H.cell (w.heap.size) 1 (.int .i64 m) (List.Mem.tail _ (List.Mem.head _))
  have cr2 := H.cell (w.heap.size) 2 (.int .i64 d) (List.Mem.tail _ (List.Mem.tail _ (List.Mem.head _)))
  have cr3 := H.cell (w.heap.size) 3 (.int .i64 q) (List.Mem.tail _ (List.Mem.tail _ (List.Mem.tail _ (List.Mem.head _))))
  have cr4 := H.cell (w.heap.size) 4 (.int .i64 o) (List.Mem.tail _ (List.Mem.tail _ (List.Mem.tail _ (List.Mem.tail _ (List.Mem.head _)))))
  have cr5 := H.cell (w.heap.size) 5 (.int .i64 s) (List.Mem.tail _ (List.Mem.tail _ (List.Mem.tail _ (List.Mem.tail _ (List.Mem.tail _ (List.Mem.head _))))))
  have cr6 := H.cell (w.heap.size) 6 (.int .i64 f) (List.Mem.tail _ (List.Mem.tail _ (List.Mem.tail _ (List.Mem.tail _ (List.Mem.tail _ (List.Mem.tail _ (List.Mem.head _)))))))
  have cr7 := H.cell (w.heap.size) 7 (.int .i64 t) (List.Mem.tail _ (List.Mem.tail _ (List.Mem.tail _ (List.Mem.tail _ (List.Mem.tail _ (List.Mem.tail _ (List.Mem.tail _ (List.Mem.head _))))))))
  have lr := H.lt (w.heap.size) 0 (.int .i64 k) (List.Mem.head _)
  go_wp2_with fail
  clear cr0 cr1 cr2 cr3 cr4 cr5 cr6 cr7 lr
  (with_reducible refine (K.base k m d q o s f t y 0 false _ (H.factsU (List.Mem.tail _ (List.Mem.tail _ (List.Mem.tail _ (List.Mem.tail _ (List.Mem.tail _ (List.Mem.tail _ (List.Mem.tail _ (List.Mem.tail _ (List.Mem.tail _ (List.Mem.tail _ (List.Mem.tail _ (List.Mem.tail _ (List.Mem.tail _ (List.Mem.tail _ (List.Mem.tail _ (List.Mem.tail _ (List.Mem.head _)))))))))))))))))) MM.out HA.out AB.out).mono ?_)
  rintro e w3 ⟨rfl, hb⟩
  replace H := H.below hb
  clear hb
  have cr0 := H.cell (w.heap.size) 0 (.int .i64 k) (List.Mem.head _)
  have cr1 := H.cell (w.heap.size) 1 (.int .i64 m) (List.Mem.tail _ (List.Mem.head _))
  have cr2 := H.cell (w.heap.size) 2 (.int .i64 d) (List.Mem.tail _ (List.Mem.tail _ (List.Mem.head _)))
  have cr3 := H.cell (w.heap.size) 3 (.int .i64 q) (List.Mem.tail _ (List.Mem.tail _ (List.Mem.tail _ (List.Mem.head _))))
  have cr4 := H.cell (w.heap.size) 4 (.int .i64 o) (List.Mem.tail _ (List.Mem.tail _ (List.Mem.tail _ (List.Mem.tail _ (List.Mem.head _)))))
  have cr5 := H.cell (w.heap.size) 5 (.int .i64 s) (List.Mem.tail _ (List.Mem.tail _ (List.Mem.tail _ (List.Mem.tail _ (List.Mem.tail _ (List.Mem.head _))))))
  have cr6 := H.cell (w.heap.size) 6 (.int .i64 f) (List.Mem.tail _ (List.Mem.tail _ (List.Mem.tail _ (List.Mem.tail _ (List.Mem.tail _ (List.Mem.tail _ (List.Mem.head _)))))))
  have cr7 := H.cell (w.heap.size) 7 (.int .i64 t) (List.Mem.tail _ (List.Mem.tail _ (List.Mem.tail _ (List.Mem.tail _ (List.Mem.tail _ (List.Mem.tail _ (List.Mem.tail _ (List.Mem.head _))))))))
  have lr := H.lt (w.heap.size) 0 (.int .i64 k) (List.Mem.head _)
  go_wp2_with fail
  clear cr0 cr1 cr2 cr3 cr4 cr5 cr6 cr7 lr
  (with_reducible refine (K.inn k m d q o s f t y 0 false _ (H.factsU (List.Mem.tail _ (List.Mem.tail _ (List.Mem.tail _ (List.Mem.tail _ (List.Mem.tail _ (List.Mem.tail _ (List.Mem.tail _ (List.Mem.tail _ (List.Mem.tail _ (List.Mem.tail _ (List.Mem.tail _ (List.Mem.tail _ (List.Mem.tail _ (List.Mem.tail _ (List.Mem.tail _ (List.Mem.tail _ (List.Mem.head _)))))))))))))))))) MM.out HC.out CB.out).mono ?_)
  rintro e w4 ⟨rfl, hb⟩
  replace H := H.below hb
  clear hb
  have cr0 := H.cell (w.heap.size) 0 (.int .i64 k) (List.Mem.head _)
  have cr1 := H.cell (w.heap.size) 1 (.int .i64 m) (List.Mem.tail _ (List.Mem.head _))
  have cr2 := H.cell (w.heap.size) 2 (.int .i64 d) (List.Mem.tail _ (List.Mem.tail _ (List.Mem.head _)))
  have cr3 := H.cell (w.heap.size) 3 (.int .i64 q) (List.Mem.tail _ (List.Mem.tail _ (List.Mem.tail _ (List.Mem.head _))))
  have cr4 := H.cell (w.heap.size) 4 (.int .i64 o) (List.Mem.tail _ (List.Mem.tail _ (List.Mem.tail _ (List.Mem.tail _ (List.Mem.head _)))))
  have cr5 := H.cell (w.heap.size) 5 (.int .i64 s) (List.Mem.tail _ (List.Mem.tail _ (List.Mem.tail _ (List.Mem.tail _ (List.Mem.tail _ (List.Mem.head _))))))
  have cr6 := H.cell (w.heap.size) 6 (.int .i64 f) (List.Mem.tail _ (List.Mem.tail _ (List.Mem.tail _ (List.Mem.tail _ (List.Mem.tail _ (List.Mem.tail _ (List.Mem.head _)))))))
  have cr7 := H.cell (w.heap.size) 7 (.int .i64 t) (List.Mem.tail _ (List.Mem.tail _ (List.Mem.tail _ (List.Mem.tail _ (List.Mem.tail _ (List.Mem.tail _ (List.Mem.tail _ (List.Mem.head _))))))))
  have lr := H.lt (w.heap.size) 0 (.int .i64 k) (List.Mem.head _)
  go_wp2_with fail
  clear cr0 cr1 cr2 cr3 cr4 cr5 cr6 cr7 lr
  go_ret
  exact ⟨rfl, H.old⟩

set_option maxHeartbeats 8000000 in
set_option maxRecDepth 100000 in
theorem rushifts_stay (K : RWay) (k m d q o s f t y a v : Int) (w : World) (hL : FactsU w) (h : Ru.mb ⟨k, m, d, q, o, s, f, t⟩ = true) (hM : Ru.May ⟨k, m, d, q, o, s, f, t⟩) (ha : Ru.bas ⟨k, m, d, q, o, s, f, t⟩ y = a) (hab : decide ((0:Int) < a) = true) (hc : Ru.inn ⟨k, m, d, q, o, s, f, t⟩ y = a) (hcb : decide ((0:Int) < a) = true) (hd : decide (1 ≤ a ∧ a ≤ 3652059) = true) (hv : wk a = v) (hs : s = 0 ∨ v < 5) :
    Calls Tryd.prog 4 #[.agg #[.int .i64 k, .int .i64 m, .int .i64 d, .int .i64 q, .int .i64 o, .int .i64 s, .int .i64 f, .int .i64 t], .int .i64 y] w fun e w' => e = .returned (.bool true) ∧ Below w.heap.size w w' := by
  have H := (Held.start w).add (f := factsUF) hL
  clear hL
  have HM := Lib.hid h
  have MM := Lib.hid hM
  have HA := Lib.hid ha
  have AB := Lib.hid hab
  have HC := Lib.hid hc
  have CB := Lib.hid hcb
  have HD := Lib.hid hd
  have HV := Lib.hid hv
  clear h hM ha hab hc hcb hd hv
  go_enter Tryd.func4, Tryd.ntmps4
  go_wp2_with fail
  replace H := (H.oct (w.heap.size) (.int .i64 k) (.int .i64 m) (.int .i64 d) (.int .i64 q) (.int .i64 o) (.int .i64 s) (.int .i64 f) (.int .i64 t) 23 rfl)
  (with_reducible refine (rushown_any K _ (H.factsU (List.Mem.tail _ (List.Mem.tail _ (List.Mem.tail _ (List.Mem.tail _ (List.Mem.tail _ (List.Mem.tail _ (List.Mem.tail _ (List.Mem.tail _ (List.Mem.tail _ (List.Mem.tail _ (List.Mem.tail _ (List.Mem.tail _ (List.Mem.tail _ (List.Mem.tail _ (List.Mem.tail _ (List.Mem.tail _ (List.Mem.head _))))))))))))))))))).mono ?_)
  rintro e w1 ⟨rfl, hb⟩
  replace H := H.below hb
  clear hb
  have cr0 := H.cell (w.heap.size) 0 (.int .i64 k) (List.Mem.head _)
  have cr1 := H.cell (w.heap.size) 1 (.int .i64 m) (List.Mem.tail _ (List.Mem.head _))
  have cr2 := H.cell (w.heap.size) 2 (.int .i64 d) (List.Mem.tail _ (List.Mem.tail _ (List.Mem.head _)))
  have cr3 := H.cell (w.heap.size) 3 (.int .i64 q) (List.Mem.tail _ (List.Mem.tail _ (List.Mem.tail _ (List.Mem.head _))))
  have cr4 := H.cell (w.heap.size) 4 (.int .i64 o) (List.Mem.tail _ (List.Mem.tail _ (List.Mem.tail _ (List.Mem.tail _ (List.Mem.head _)))))
  have cr5 := H.cell (w.heap.size) 5 (.int .i64 s) (List.Mem.tail _ (List.Mem.tail _ (List.Mem.tail _ (List.Mem.tail _ (List.Mem.tail _ (List.Mem.head _))))))
  have cr6 := H.cell (w.heap.size) 6 (.int .i64 f) (List.Mem.tail _ (List.Mem.tail _ (List.Mem.tail _ (List.Mem.tail _ (List.Mem.tail _ (List.Mem.tail _ (List.Mem.head _)))))))
  have cr7 := H.cell (w.heap.size) 7 (.int .i64 t) (List.Mem.tail _ (List.Mem.tail _ (List.Mem.tail _ (List.Mem.tail _ (List.Mem.tail _ (List.Mem.tail _ (List.Mem.tail _ (List.Mem.head _))))))))
  have lr := H.lt (w.heap.size) 0 (.int .i64 k) (List.Mem.head _)
  go_wp2_with fail
  clear cr0 cr1 cr2 cr3 cr4 cr5 cr6 cr7 lr
  (with_reducible refine (rumay_any k m d q o s f t true _ HM.out).mono ?_)
  rintro e w2 ⟨rfl, hb⟩
  replace H := H.below hb
  clear hb
  have cr0 := H.cell (w.heap.size) 0 (.int .i64 k) (List.Mem.head _)
  have cr1 := H.cell (w.heap.size) 1 (.int .i64 m) (List.Mem.tail _ (List.Mem.head _))
  have cr2 := H.cell (w.heap.size) 2 (.int .i64 d) (List.Mem.tail _ (List.Mem.tail _ (List.Mem.head _)))
  have cr3 := H.cell (w.heap.size) 3 (.int .i64 q) (List.Mem.tail _ (List.Mem.tail _ (List.Mem.tail _ (List.Mem.head _))))
  have cr4 := H.cell (w.heap.size) 4 (.int .i64 o) (List.Mem.tail _ (List.Mem.tail _ (List.Mem.tail _ (List.Mem.tail _ (List.Mem.head _)))))
  have cr5 := H.cell (w.heap.size) 5 (.int .i64 s) (List.Mem.tail _ (List.Mem.tail _ (List.Mem.tail _ (List.Mem.tail _ (List.Mem.tail _ (List.Mem.head _))))))
  have cr6 := H.cell (w.heap.size) 6 (.int .i64 f) (List.Mem.tail _ (List.Mem.tail _ (List.Mem.tail _ (List.Mem.tail _ (List.Mem.tail _ (List.Mem.tail _ (List.Mem.head _)))))))
  have cr7 := H.cell (w.heap.size) 7 (.int .i64 t) (List.Mem.tail _ (List.Mem.tail _ (List.Mem.tail _ (List.Mem.tail _ (List.Mem.tail _ (List.Mem.tail _ (List.Mem.tail _ (List.Mem.head _))))))))
  have lr := H.lt (w.heap.size) 0 (.int .i64 k) (List.Mem.head _)
  go_wp2_with fail
  clear cr0 cr1 cr2 cr3 cr4 cr5 cr6 cr7 lr
  (with_reducible refine (K.base k m d q o s f t y a true _ (H.factsU (List.Mem.tail _ (List.Mem.tail _ (List.Mem.tail _ (List.Mem.tail _ (List.Mem.tail _ (List.Mem.tail _ (List.Mem.tail _ (List.Mem.tail _ (List.Mem.tail _ (List.Mem.tail _ (List.Mem.tail _ (List.Mem.tail _ (List.Mem.tail _ (List.Mem.tail _ (List.Mem.tail _ (List.Mem.tail _ (List.Mem.head _)))))))))))))))))) MM.out HA.out AB.out).mono ?_)
  rintro e w3 ⟨rfl, hb⟩
  replace H := H.below hb
  clear hb
  have cr0 := H.cell (w.heap.size) 0 (.int .i64 k) (List.Mem.head _)
  have cr1 := H.cell (w.heap.size) 1 (.int .i64 m) (List.Mem.tail _ (List.Mem.head _))
  have cr2 := H.cell (w.heap.size) 2 (.int .i64 d) (List.Mem.tail _ (List.Mem.tail _ (List.Mem.head _)))
  have cr3 := H.cell (w.heap.size) 3 (.int .i64 q) (List.Mem.tail _ (List.Mem.tail _ (List.Mem.tail _ (List.Mem.head _))))
  have cr4 := H.cell (w.heap.size) 4 (.int .i64 o) (List.Mem.tail _ (List.Mem.tail _ (List.Mem.tail _ (List.Mem.tail _ (List.Mem.head _)))))
  have cr5 := H.cell (w.heap.size) 5 (.int .i64 s) (List.Mem.tail _ (List.Mem.tail _ (List.Mem.tail _ (List.Mem.tail _ (List.Mem.tail _ (List.Mem.head _))))))
  have cr6 := H.cell (w.heap.size) 6 (.int .i64 f) (List.Mem.tail _ (List.Mem.tail _ (List.Mem.tail _ (List.Mem.tail _ (List.Mem.tail _ (List.Mem.tail _ (List.Mem.head _)))))))
  have cr7 := H.cell (w.heap.size) 7 (.int .i64 t) (List.Mem.tail _ (List.Mem.tail _ (List.Mem.tail _ (List.Mem.tail _ (List.Mem.tail _ (List.Mem.tail _ (List.Mem.tail _ (List.Mem.head _))))))))
  have lr := H.lt (w.heap.size) 0 (.int .i64 k) (List.Mem.head _)
  go_wp2_with fail
  clear cr0 cr1 cr2 cr3 cr4 cr5 cr6 cr7 lr
  (with_reducible refine (K.inn k m d q o s f t y a true _ (H.factsU (List.Mem.tail _ (List.Mem.tail _ (List.Mem.tail _ (List.Mem.tail _ (List.Mem.tail _ (List.Mem.tail _ (List.Mem.tail _ (List.Mem.tail _ (List.Mem.tail _ (List.Mem.tail _ (List.Mem.tail _ (List.Mem.tail _ (List.Mem.tail _ (List.Mem.tail _ (List.Mem.tail _ (List.Mem.tail _ (List.Mem.head _)))))))))))))))))) MM.out HC.out CB.out).mono ?_)
  rintro e w4 ⟨rfl, hb⟩
  replace H := H.below hb
  clear hb
  have cr0 := H.cell (w.heap.size) 0 (.int .i64 k) (List.Mem.head _)
  have cr1 := H.cell (w.heap.size) 1 (.int .i64 m) (List.Mem.tail _ (List.Mem.head _))
  have cr2 := H.cell (w.heap.size) 2 (.int .i64 d) (List.Mem.tail _ (List.Mem.tail _ (List.Mem.head _)))
  have cr3 := H.cell (w.heap.size) 3 (.int .i64 q) (List.Mem.tail _ (List.Mem.tail _ (List.Mem.tail _ (List.Mem.head _))))
  have cr4 := H.cell (w.heap.size) 4 (.int .i64 o) (List.Mem.tail _ (List.Mem.tail _ (List.Mem.tail _ (List.Mem.tail _ (List.Mem.head _)))))
  have cr5 := H.cell (w.heap.size) 5 (.int .i64 s) (List.Mem.tail _ (List.Mem.tail _ (List.Mem.tail _ (List.Mem.tail _ (List.Mem.tail _ (List.Mem.head _))))))
  have cr6 := H.cell (w.heap.size) 6 (.int .i64 f) (List.Mem.tail _ (List.Mem.tail _ (List.Mem.tail _ (List.Mem.tail _ (List.Mem.tail _ (List.Mem.tail _ (List.Mem.head _)))))))
  have cr7 := H.cell (w.heap.size) 7 (.int .i64 t) (List.Mem.tail _ (List.Mem.tail _ (List.Mem.tail _ (List.Mem.tail _ (List.Mem.tail _ (List.Mem.tail _ (List.Mem.tail _ (List.Mem.head _))))))))
  have lr := H.lt (w.heap.size) 0 (.int .i64 k) (List.Mem.head _)
  go_wp2_with fail
  clear cr0 cr1 cr2 cr3 cr4 cr5 cr6 cr7 lr
  (with_reducible refine (rday12_is a true _ HD.out).mono ?_)
  rintro e w5 ⟨rfl, hb⟩
  replace H := H.below hb
  clear hb
  go_wp2_with fail
  (with_reducible refine (rweek_is a v _ HV.out).mono ?_)
  rintro e w6 ⟨rfl, hb⟩
  replace H := H.below hb
  clear hb
  have cr0 := H.cell (w.heap.size) 0 (.int .i64 k) (List.Mem.head _)
  have cr1 := H.cell (w.heap.size) 1 (.int .i64 m) (List.Mem.tail _ (List.Mem.head _))
  have cr2 := H.cell (w.heap.size) 2 (.int .i64 d) (List.Mem.tail _ (List.Mem.tail _ (List.Mem.head _)))
  have cr3 := H.cell (w.heap.size) 3 (.int .i64 q) (List.Mem.tail _ (List.Mem.tail _ (List.Mem.tail _ (List.Mem.head _))))
  have cr4 := H.cell (w.heap.size) 4 (.int .i64 o) (List.Mem.tail _ (List.Mem.tail _ (List.Mem.tail _ (List.Mem.tail _ (List.Mem.head _)))))
  have cr5 := H.cell (w.heap.size) 5 (.int .i64 s) (List.Mem.tail _ (List.Mem.tail _ (List.Mem.tail _ (List.Mem.tail _ (List.Mem.tail _ (List.Mem.head _))))))
  have cr6 := H.cell (w.heap.size) 6 (.int .i64 f) (List.Mem.tail _ (List.Mem.tail _ (List.Mem.tail _ (List.Mem.tail _ (List.Mem.tail _ (List.Mem.tail _ (List.Mem.head _)))))))
  have cr7 := H.cell (w.heap.size) 7 (.int .i64 t) (List.Mem.tail _ (List.Mem.tail _ (List.Mem.tail _ (List.Mem.tail _ (List.Mem.tail _ (List.Mem.tail _ (List.Mem.tail _ (List.Mem.head _))))))))
  have lr := H.lt (w.heap.size) 0 (.int .i64 k) (List.Mem.head _)
  rcases hs with hs | hs
  · subst hs
    go_wp2
    go_ret
    exact ⟨rfl, H.old⟩
  · by_cases hs0 : s = 0
    · subst hs0
      go_wp2
      go_ret
      exact ⟨rfl, H.old⟩
    · have e0 : (s == 0) = false := by simpa using hs0
      go_wp2
      go_ret
      exact ⟨rfl, H.old⟩

set_option maxHeartbeats 8000000 in
set_option maxRecDepth 100000 in
theorem rushifts_out (K : RWay) (k m d q o s f t y a v : Int) (w : World) (hL : FactsU w) (h : Ru.mb ⟨k, m, d, q, o, s, f, t⟩ = true) (hM : Ru.May ⟨k, m, d, q, o, s, f, t⟩) (ha : Ru.bas ⟨k, m, d, q, o, s, f, t⟩ y = a) (hab : decide ((0:Int) < a) = true) (hc : Ru.inn ⟨k, m, d, q, o, s, f, t⟩ y = 0) (hcb : decide ((0:Int) < 0) = false) (hd : decide (1 ≤ a ∧ a ≤ 3652059) = true) (hv : wk a = v) (hs : s ≠ 0 ∧ ¬ v < 5) (ho : a ≤ 1 ∨ 3652058 ≤ a) :
    Calls Tryd.prog 4 #[.agg #[.int .i64 k, .int .i64 m, .int .i64 d, .int .i64 q, .int .i64 o, .int .i64 s, .int .i64 f, .int .i64 t], .int .i64 y] w fun e w' => e = .returned (.bool true) ∧ Below w.heap.size w w' := by
  have H := (Held.start w).add (f := factsUF) hL
  clear hL
  have HM := Lib.hid h
  have MM := Lib.hid hM
  have HA := Lib.hid ha
  have AB := Lib.hid hab
  have HC := Lib.hid hc
  have CB := Lib.hid hcb
  have HD := Lib.hid hd
  have HV := Lib.hid hv
  clear h hM ha hab hc hcb hd hv
  have e0 : (s == 0) = false := by simpa using hs.1
  have e1 := hs.2
  have e2 : (decide (a ≤ 1) || decide (a ≥ 3652058)) = true := by simpa using ho
  go_enter Tryd.func4, Tryd.ntmps4
  go_wp2_with fail
  replace H := (H.oct (w.heap.size) (.int .i64 k) (.int .i64 m) (.int .i64 d) (.int .i64 q) (.int .i64 o) (.int .i64 s) (.int .i64 f) (.int .i64 t) 23 rfl)
  (with_reducible refine (rushown_any K _ (H.factsU (List.Mem.tail _ (List.Mem.tail _ (List.Mem.tail _ (List.Mem.tail _ (List.Mem.tail _ (List.Mem.tail _ (List.Mem.tail _ (List.Mem.tail _ (List.Mem.tail _ (List.Mem.tail _ (List.Mem.tail _ (List.Mem.tail _ (List.Mem.tail _ (List.Mem.tail _ (List.Mem.tail _ (List.Mem.tail _ (List.Mem.head _))))))))))))))))))).mono ?_)
  rintro e w1 ⟨rfl, hb⟩
  replace H := H.below hb
  clear hb
  have cr0 := H.cell (w.heap.size) 0 (.int .i64 k) (List.Mem.head _)
  have cr1 := H.cell (w.heap.size) 1 (.int .i64 m) (List.Mem.tail _ (List.Mem.head _))
  have cr2 := H.cell (w.heap.size) 2 (.int .i64 d) (List.Mem.tail _ (List.Mem.tail _ (List.Mem.head _)))
  have cr3 := H.cell (w.heap.size) 3 (.int .i64 q) (List.Mem.tail _ (List.Mem.tail _ (List.Mem.tail _ (List.Mem.head _))))
  have cr4 := H.cell (w.heap.size) 4 (.int .i64 o) (List.Mem.tail _ (List.Mem.tail _ (List.Mem.tail _ (List.Mem.tail _ (List.Mem.head _)))))
  have cr5 := H.cell (w.heap.size) 5 (.int .i64 s) (List.Mem.tail _ (List.Mem.tail _ (List.Mem.tail _ (List.Mem.tail _ (List.Mem.tail _ (List.Mem.head _))))))
  have cr6 := H.cell (w.heap.size) 6 (.int .i64 f) (List.Mem.tail _ (List.Mem.tail _ (List.Mem.tail _ (List.Mem.tail _ (List.Mem.tail _ (List.Mem.tail _ (List.Mem.head _)))))))
  have cr7 := H.cell (w.heap.size) 7 (.int .i64 t) (List.Mem.tail _ (List.Mem.tail _ (List.Mem.tail _ (List.Mem.tail _ (List.Mem.tail _ (List.Mem.tail _ (List.Mem.tail _ (List.Mem.head _))))))))
  have lr := H.lt (w.heap.size) 0 (.int .i64 k) (List.Mem.head _)
  go_wp2_with fail
  clear cr0 cr1 cr2 cr3 cr4 cr5 cr6 cr7 lr
  (with_reducible refine (rumay_any k m d q o s f t true _ HM.out).mono ?_)
  rintro e w2 ⟨rfl, hb⟩
  replace H := H.below hb
  clear hb
  have cr0 := H.cell (w.heap.size) 0 (.int .i64 k) (List.Mem.head _)
  have cr1 := H.cell (w.heap.size) 1 (.int .i64 m) (List.Mem.tail _ (List.Mem.head _))
  have cr2 := H.cell (w.heap.size) 2 (.int .i64 d) (List.Mem.tail _ (List.Mem.tail _ (List.Mem.head _)))
  have cr3 := H.cell (w.heap.size) 3 (.int .i64 q) (List.Mem.tail _ (List.Mem.tail _ (List.Mem.tail _ (List.Mem.head _))))
  have cr4 := H.cell (w.heap.size) 4 (.int .i64 o) (List.Mem.tail _ (List.Mem.tail _ (List.Mem.tail _ (List.Mem.tail _ (List.Mem.head _)))))
  have cr5 := H.cell (w.heap.size) 5 (.int .i64 s) (List.Mem.tail _ (List.Mem.tail _ (List.Mem.tail _ (List.Mem.tail _ (List.Mem.tail _ (List.Mem.head _))))))
  have cr6 := H.cell (w.heap.size) 6 (.int .i64 f) (List.Mem.tail _ (List.Mem.tail _ (List.Mem.tail _ (List.Mem.tail _ (List.Mem.tail _ (List.Mem.tail _ (List.Mem.head _)))))))
  have cr7 := H.cell (w.heap.size) 7 (.int .i64 t) (List.Mem.tail _ (List.Mem.tail _ (List.Mem.tail _ (List.Mem.tail _ (List.Mem.tail _ (List.Mem.tail _ (List.Mem.tail _ (List.Mem.head _))))))))
  have lr := H.lt (w.heap.size) 0 (.int .i64 k) (List.Mem.head _)
  go_wp2_with fail
  clear cr0 cr1 cr2 cr3 cr4 cr5 cr6 cr7 lr
  (with_reducible refine (K.base k m d q o s f t y a true _ (H.factsU (List.Mem.tail _ (List.Mem.tail _ (List.Mem.tail _ (List.Mem.tail _ (List.Mem.tail _ (List.Mem.tail _ (List.Mem.tail _ (List.Mem.tail _ (List.Mem.tail _ (List.Mem.tail _ (List.Mem.tail _ (List.Mem.tail _ (List.Mem.tail _ (List.Mem.tail _ (List.Mem.tail _ (List.Mem.tail _ (List.Mem.head _)))))))))))))))))) MM.out HA.out AB.out).mono ?_)
  rintro e w3 ⟨rfl, hb⟩
  replace H := H.below hb
  clear hb
  have cr0 := H.cell (w.heap.size) 0 (.int .i64 k) (List.Mem.head _)
  have cr1 := H.cell (w.heap.size) 1 (.int .i64 m) (List.Mem.tail _ (List.Mem.head _))
  have cr2 := H.cell (w.heap.size) 2 (.int .i64 d) (List.Mem.tail _ (List.Mem.tail _ (List.Mem.head _)))
  have cr3 := H.cell (w.heap.size) 3 (.int .i64 q) (List.Mem.tail _ (List.Mem.tail _ (List.Mem.tail _ (List.Mem.head _))))
  have cr4 := H.cell (w.heap.size) 4 (.int .i64 o) (List.Mem.tail _ (List.Mem.tail _ (List.Mem.tail _ (List.Mem.tail _ (List.Mem.head _)))))
  have cr5 := H.cell (w.heap.size) 5 (.int .i64 s) (List.Mem.tail _ (List.Mem.tail _ (List.Mem.tail _ (List.Mem.tail _ (List.Mem.tail _ (List.Mem.head _))))))
  have cr6 := H.cell (w.heap.size) 6 (.int .i64 f) (List.Mem.tail _ (List.Mem.tail _ (List.Mem.tail _ (List.Mem.tail _ (List.Mem.tail _ (List.Mem.tail _ (List.Mem.head _)))))))
  have cr7 := H.cell (w.heap.size) 7 (.int .i64 t) (List.Mem.tail _ (List.Mem.tail _ (List.Mem.tail _ (List.Mem.tail _ (List.Mem.tail _ (List.Mem.tail _ (List.Mem.tail _ (List.Mem.head _))))))))
  have lr := H.lt (w.heap.size) 0 (.int .i64 k) (List.Mem.head _)
  go_wp2_with fail
  clear cr0 cr1 cr2 cr3 cr4 cr5 cr6 cr7 lr
  (with_reducible refine (K.inn k m d q o s f t y 0 false _ (H.factsU (List.Mem.tail _ (List.Mem.tail _ (List.Mem.tail _ (List.Mem.tail _ (List.Mem.tail _ (List.Mem.tail _ (List.Mem.tail _ (List.Mem.tail _ (List.Mem.tail _ (List.Mem.tail _ (List.Mem.tail _ (List.Mem.tail _ (List.Mem.tail _ (List.Mem.tail _ (List.Mem.tail _ (List.Mem.tail _ (List.Mem.head _)))))))))))))))))) MM.out HC.out CB.out).mono ?_)
  rintro e w4 ⟨rfl, hb⟩
  replace H := H.below hb
  clear hb
  have cr0 := H.cell (w.heap.size) 0 (.int .i64 k) (List.Mem.head _)
  have cr1 := H.cell (w.heap.size) 1 (.int .i64 m) (List.Mem.tail _ (List.Mem.head _))
  have cr2 := H.cell (w.heap.size) 2 (.int .i64 d) (List.Mem.tail _ (List.Mem.tail _ (List.Mem.head _)))
  have cr3 := H.cell (w.heap.size) 3 (.int .i64 q) (List.Mem.tail _ (List.Mem.tail _ (List.Mem.tail _ (List.Mem.head _))))
  have cr4 := H.cell (w.heap.size) 4 (.int .i64 o) (List.Mem.tail _ (List.Mem.tail _ (List.Mem.tail _ (List.Mem.tail _ (List.Mem.head _)))))
  have cr5 := H.cell (w.heap.size) 5 (.int .i64 s) (List.Mem.tail _ (List.Mem.tail _ (List.Mem.tail _ (List.Mem.tail _ (List.Mem.tail _ (List.Mem.head _))))))
  have cr6 := H.cell (w.heap.size) 6 (.int .i64 f) (List.Mem.tail _ (List.Mem.tail _ (List.Mem.tail _ (List.Mem.tail _ (List.Mem.tail _ (List.Mem.tail _ (List.Mem.head _)))))))
  have cr7 := H.cell (w.heap.size) 7 (.int .i64 t) (List.Mem.tail _ (List.Mem.tail _ (List.Mem.tail _ (List.Mem.tail _ (List.Mem.tail _ (List.Mem.tail _ (List.Mem.tail _ (List.Mem.head _))))))))
  have lr := H.lt (w.heap.size) 0 (.int .i64 k) (List.Mem.head _)
  go_wp2_with fail
  clear cr0 cr1 cr2 cr3 cr4 cr5 cr6 cr7 lr
  (with_reducible refine (rday12_is a true _ HD.out).mono ?_)
  rintro e w5 ⟨rfl, hb⟩
  replace H := H.below hb
  clear hb
  go_wp2_with fail
  (with_reducible refine (rweek_is a v _ HV.out).mono ?_)
  rintro e w6 ⟨rfl, hb⟩
  replace H := H.below hb
  clear hb
  have cr0 := H.cell (w.heap.size) 0 (.int .i64 k) (List.Mem.head _)
  have cr1 := H.cell (w.heap.size) 1 (.int .i64 m) (List.Mem.tail _ (List.Mem.head _))
  have cr2 := H.cell (w.heap.size) 2 (.int .i64 d) (List.Mem.tail _ (List.Mem.tail _ (List.Mem.head _)))
  have cr3 := H.cell (w.heap.size) 3 (.int .i64 q) (List.Mem.tail _ (List.Mem.tail _ (List.Mem.tail _ (List.Mem.head _))))
  have cr4 := H.cell (w.heap.size) 4 (.int .i64 o) (List.Mem.tail _ (List.Mem.tail _ (List.Mem.tail _ (List.Mem.tail _ (List.Mem.head _)))))
  have cr5 := H.cell (w.heap.size) 5 (.int .i64 s) (List.Mem.tail _ (List.Mem.tail _ (List.Mem.tail _ (List.Mem.tail _ (List.Mem.tail _ (List.Mem.head _))))))
  have cr6 := H.cell (w.heap.size) 6 (.int .i64 f) (List.Mem.tail _ (List.Mem.tail _ (List.Mem.tail _ (List.Mem.tail _ (List.Mem.tail _ (List.Mem.tail _ (List.Mem.head _)))))))
  have cr7 := H.cell (w.heap.size) 7 (.int .i64 t) (List.Mem.tail _ (List.Mem.tail _ (List.Mem.tail _ (List.Mem.tail _ (List.Mem.tail _ (List.Mem.tail _ (List.Mem.tail _ (List.Mem.head _))))))))
  have lr := H.lt (w.heap.size) 0 (.int .i64 k) (List.Mem.head _)
  by_cases ha1 : a ≤ 1
  · go_wp2
    go_ret
    exact ⟨rfl, H.old⟩
  · have ha2 : 3652058 ≤ a := by omega
    go_wp2
    go_ret
    exact ⟨rfl, H.old⟩

set_option maxHeartbeats 8000000 in
set_option maxRecDepth 100000 in
theorem rushifts_a (K : RWay) (k m d q o s f t y a : Int) (w : World) (hL : FactsU w) (h : Ru.mb ⟨k, m, d, q, o, s, f, t⟩ = true) (hM : Ru.May ⟨k, m, d, q, o, s, f, t⟩) (ha : Ru.bas ⟨k, m, d, q, o, s, f, t⟩ y = a) (hab : decide ((0:Int) < a) = true) (hc : Ru.inn ⟨k, m, d, q, o, s, f, t⟩ y = (a - 1)) (hcb : decide ((0:Int) < (a - 1)) = true) (hd : decide (1 ≤ a ∧ a ≤ 3652059) = true) (hv : wk a = 5) (hu : wk (a - 1) = 4) (hs : s = 1) (hx : 1 ≤ a ∧ a ≤ 3652059) :
    Calls Tryd.prog 4 #[.agg #[.int .i64 k, .int .i64 m, .int .i64 d, .int .i64 q, .int .i64 o, .int .i64 s, .int .i64 f, .int .i64 t], .int .i64 y] w fun e w' => e = .returned (.bool true) ∧ Below w.heap.size w w' := by
  have H := (Held.start w).add (f := factsUF) hL
  clear hL
  have HM := Lib.hid h
  have MM := Lib.hid hM
  have HA := Lib.hid ha
  have AB := Lib.hid hab
  have HC := Lib.hid hc
  have CB := Lib.hid hcb
  have HD := Lib.hid hd
  have HV := Lib.hid hv
  have HU := Lib.hid hu
  clear h hM ha hab hc hcb hd hv hu
  subst hs
  go_enter Tryd.func4, Tryd.ntmps4
  go_wp2_with fail
  replace H := (H.oct (w.heap.size) (.int .i64 k) (.int .i64 m) (.int .i64 d) (.int .i64 q) (.int .i64 o) (.int .i64 1) (.int .i64 f) (.int .i64 t) 23 rfl)
  (with_reducible refine (rushown_any K _ (H.factsU (List.Mem.tail _ (List.Mem.tail _ (List.Mem.tail _ (List.Mem.tail _ (List.Mem.tail _ (List.Mem.tail _ (List.Mem.tail _ (List.Mem.tail _ (List.Mem.tail _ (List.Mem.tail _ (List.Mem.tail _ (List.Mem.tail _ (List.Mem.tail _ (List.Mem.tail _ (List.Mem.tail _ (List.Mem.tail _ (List.Mem.head _))))))))))))))))))).mono ?_)
  rintro e w1 ⟨rfl, hb⟩
  replace H := H.below hb
  clear hb
  have cr0 := H.cell (w.heap.size) 0 (.int .i64 k) (List.Mem.head _)
  have cr1 := H.cell (w.heap.size) 1 (.int .i64 m) (List.Mem.tail _ (List.Mem.head _))
  have cr2 := H.cell (w.heap.size) 2 (.int .i64 d) (List.Mem.tail _ (List.Mem.tail _ (List.Mem.head _)))
  have cr3 := H.cell (w.heap.size) 3 (.int .i64 q) (List.Mem.tail _ (List.Mem.tail _ (List.Mem.tail _ (List.Mem.head _))))
  have cr4 := H.cell (w.heap.size) 4 (.int .i64 o) (List.Mem.tail _ (List.Mem.tail _ (List.Mem.tail _ (List.Mem.tail _ (List.Mem.head _)))))
  have cr5 := H.cell (w.heap.size) 5 (.int .i64 1) (List.Mem.tail _ (List.Mem.tail _ (List.Mem.tail _ (List.Mem.tail _ (List.Mem.tail _ (List.Mem.head _))))))
  have cr6 := H.cell (w.heap.size) 6 (.int .i64 f) (List.Mem.tail _ (List.Mem.tail _ (List.Mem.tail _ (List.Mem.tail _ (List.Mem.tail _ (List.Mem.tail _ (List.Mem.head _)))))))
  have cr7 := H.cell (w.heap.size) 7 (.int .i64 t) (List.Mem.tail _ (List.Mem.tail _ (List.Mem.tail _ (List.Mem.tail _ (List.Mem.tail _ (List.Mem.tail _ (List.Mem.tail _ (List.Mem.head _))))))))
  have lr := H.lt (w.heap.size) 0 (.int .i64 k) (List.Mem.head _)
  go_wp2_with fail
  clear cr0 cr1 cr2 cr3 cr4 cr5 cr6 cr7 lr
  (with_reducible refine (rumay_any k m d q o 1 f t true _ HM.out).mono ?_)
  rintro e w2 ⟨rfl, hb⟩
  replace H := H.below hb
  clear hb
  have cr0 := H.cell (w.heap.size) 0 (.int .i64 k) (List.Mem.head _)
  have cr1 := H.cell (w.heap.size) 1 (.int .i64 m) (List.Mem.tail _ (List.Mem.head _))
  have cr2 := H.cell (w.heap.size) 2 (.int .i64 d) (List.Mem.tail _ (List.Mem.tail _ (List.Mem.head _)))
  have cr3 := H.cell (w.heap.size) 3 (.int .i64 q) (List.Mem.tail _ (List.Mem.tail _ (List.Mem.tail _ (List.Mem.head _))))
  have cr4 := H.cell (w.heap.size) 4 (.int .i64 o) (List.Mem.tail _ (List.Mem.tail _ (List.Mem.tail _ (List.Mem.tail _ (List.Mem.head _)))))
  have cr5 := H.cell (w.heap.size) 5 (.int .i64 1) (List.Mem.tail _ (List.Mem.tail _ (List.Mem.tail _ (List.Mem.tail _ (List.Mem.tail _ (List.Mem.head _))))))
  have cr6 := H.cell (w.heap.size) 6 (.int .i64 f) (List.Mem.tail _ (List.Mem.tail _ (List.Mem.tail _ (List.Mem.tail _ (List.Mem.tail _ (List.Mem.tail _ (List.Mem.head _)))))))
  have cr7 := H.cell (w.heap.size) 7 (.int .i64 t) (List.Mem.tail _ (List.Mem.tail _ (List.Mem.tail _ (List.Mem.tail _ (List.Mem.tail _ (List.Mem.tail _ (List.Mem.tail _ (List.Mem.head _))))))))
  have lr := H.lt (w.heap.size) 0 (.int .i64 k) (List.Mem.head _)
  go_wp2_with fail
  clear cr0 cr1 cr2 cr3 cr4 cr5 cr6 cr7 lr
  (with_reducible refine (K.base k m d q o 1 f t y a true _ (H.factsU (List.Mem.tail _ (List.Mem.tail _ (List.Mem.tail _ (List.Mem.tail _ (List.Mem.tail _ (List.Mem.tail _ (List.Mem.tail _ (List.Mem.tail _ (List.Mem.tail _ (List.Mem.tail _ (List.Mem.tail _ (List.Mem.tail _ (List.Mem.tail _ (List.Mem.tail _ (List.Mem.tail _ (List.Mem.tail _ (List.Mem.head _)))))))))))))))))) MM.out HA.out AB.out).mono ?_)
  rintro e w3 ⟨rfl, hb⟩
  replace H := H.below hb
  clear hb
  have cr0 := H.cell (w.heap.size) 0 (.int .i64 k) (List.Mem.head _)
  have cr1 := H.cell (w.heap.size) 1 (.int .i64 m) (List.Mem.tail _ (List.Mem.head _))
  have cr2 := H.cell (w.heap.size) 2 (.int .i64 d) (List.Mem.tail _ (List.Mem.tail _ (List.Mem.head _)))
  have cr3 := H.cell (w.heap.size) 3 (.int .i64 q) (List.Mem.tail _ (List.Mem.tail _ (List.Mem.tail _ (List.Mem.head _))))
  have cr4 := H.cell (w.heap.size) 4 (.int .i64 o) (List.Mem.tail _ (List.Mem.tail _ (List.Mem.tail _ (List.Mem.tail _ (List.Mem.head _)))))
  have cr5 := H.cell (w.heap.size) 5 (.int .i64 1) (List.Mem.tail _ (List.Mem.tail _ (List.Mem.tail _ (List.Mem.tail _ (List.Mem.tail _ (List.Mem.head _))))))
  have cr6 := H.cell (w.heap.size) 6 (.int .i64 f) (List.Mem.tail _ (List.Mem.tail _ (List.Mem.tail _ (List.Mem.tail _ (List.Mem.tail _ (List.Mem.tail _ (List.Mem.head _)))))))
  have cr7 := H.cell (w.heap.size) 7 (.int .i64 t) (List.Mem.tail _ (List.Mem.tail _ (List.Mem.tail _ (List.Mem.tail _ (List.Mem.tail _ (List.Mem.tail _ (List.Mem.tail _ (List.Mem.head _))))))))
  have lr := H.lt (w.heap.size) 0 (.int .i64 k) (List.Mem.head _)
  go_wp2_with fail
  clear cr0 cr1 cr2 cr3 cr4 cr5 cr6 cr7 lr
  (with_reducible refine (K.inn k m d q o 1 f t y (a - 1) true _ (H.factsU (List.Mem.tail _ (List.Mem.tail _ (List.Mem.tail _ (List.Mem.tail _ (List.Mem.tail _ (List.Mem.tail _ (List.Mem.tail _ (List.Mem.tail _ (List.Mem.tail _ (List.Mem.tail _ (List.Mem.tail _ (List.Mem.tail _ (List.Mem.tail _ (List.Mem.tail _ (List.Mem.tail _ (List.Mem.tail _ (List.Mem.head _)))))))))))))))))) MM.out HC.out CB.out).mono ?_)
  rintro e w4 ⟨rfl, hb⟩
  replace H := H.below hb
  clear hb
  have cr0 := H.cell (w.heap.size) 0 (.int .i64 k) (List.Mem.head _)
  have cr1 := H.cell (w.heap.size) 1 (.int .i64 m) (List.Mem.tail _ (List.Mem.head _))
  have cr2 := H.cell (w.heap.size) 2 (.int .i64 d) (List.Mem.tail _ (List.Mem.tail _ (List.Mem.head _)))
  have cr3 := H.cell (w.heap.size) 3 (.int .i64 q) (List.Mem.tail _ (List.Mem.tail _ (List.Mem.tail _ (List.Mem.head _))))
  have cr4 := H.cell (w.heap.size) 4 (.int .i64 o) (List.Mem.tail _ (List.Mem.tail _ (List.Mem.tail _ (List.Mem.tail _ (List.Mem.head _)))))
  have cr5 := H.cell (w.heap.size) 5 (.int .i64 1) (List.Mem.tail _ (List.Mem.tail _ (List.Mem.tail _ (List.Mem.tail _ (List.Mem.tail _ (List.Mem.head _))))))
  have cr6 := H.cell (w.heap.size) 6 (.int .i64 f) (List.Mem.tail _ (List.Mem.tail _ (List.Mem.tail _ (List.Mem.tail _ (List.Mem.tail _ (List.Mem.tail _ (List.Mem.head _)))))))
  have cr7 := H.cell (w.heap.size) 7 (.int .i64 t) (List.Mem.tail _ (List.Mem.tail _ (List.Mem.tail _ (List.Mem.tail _ (List.Mem.tail _ (List.Mem.tail _ (List.Mem.tail _ (List.Mem.head _))))))))
  have lr := H.lt (w.heap.size) 0 (.int .i64 k) (List.Mem.head _)
  go_wp2_with fail
  clear cr0 cr1 cr2 cr3 cr4 cr5 cr6 cr7 lr
  (with_reducible refine (rday12_is a true _ HD.out).mono ?_)
  rintro e w5 ⟨rfl, hb⟩
  replace H := H.below hb
  clear hb
  have cr0 := H.cell (w.heap.size) 0 (.int .i64 k) (List.Mem.head _)
  have cr1 := H.cell (w.heap.size) 1 (.int .i64 m) (List.Mem.tail _ (List.Mem.head _))
  have cr2 := H.cell (w.heap.size) 2 (.int .i64 d) (List.Mem.tail _ (List.Mem.tail _ (List.Mem.head _)))
  have cr3 := H.cell (w.heap.size) 3 (.int .i64 q) (List.Mem.tail _ (List.Mem.tail _ (List.Mem.tail _ (List.Mem.head _))))
  have cr4 := H.cell (w.heap.size) 4 (.int .i64 o) (List.Mem.tail _ (List.Mem.tail _ (List.Mem.tail _ (List.Mem.tail _ (List.Mem.head _)))))
  have cr5 := H.cell (w.heap.size) 5 (.int .i64 1) (List.Mem.tail _ (List.Mem.tail _ (List.Mem.tail _ (List.Mem.tail _ (List.Mem.tail _ (List.Mem.head _))))))
  have cr6 := H.cell (w.heap.size) 6 (.int .i64 f) (List.Mem.tail _ (List.Mem.tail _ (List.Mem.tail _ (List.Mem.tail _ (List.Mem.tail _ (List.Mem.tail _ (List.Mem.head _)))))))
  have cr7 := H.cell (w.heap.size) 7 (.int .i64 t) (List.Mem.tail _ (List.Mem.tail _ (List.Mem.tail _ (List.Mem.tail _ (List.Mem.tail _ (List.Mem.tail _ (List.Mem.tail _ (List.Mem.head _))))))))
  have lr := H.lt (w.heap.size) 0 (.int .i64 k) (List.Mem.head _)
  go_wp2_with fail
  clear cr0 cr1 cr2 cr3 cr4 cr5 cr6 cr7 lr
  (with_reducible refine (rweek_is a 5 _ HV.out).mono ?_)
  rintro e w6 ⟨rfl, hb⟩
  replace H := H.below hb
  clear hb
  have cr0 := H.cell (w.heap.size) 0 (.int .i64 k) (List.Mem.head _)
  have cr1 := H.cell (w.heap.size) 1 (.int .i64 m) (List.Mem.tail _ (List.Mem.head _))
  have cr2 := H.cell (w.heap.size) 2 (.int .i64 d) (List.Mem.tail _ (List.Mem.tail _ (List.Mem.head _)))
  have cr3 := H.cell (w.heap.size) 3 (.int .i64 q) (List.Mem.tail _ (List.Mem.tail _ (List.Mem.tail _ (List.Mem.head _))))
  have cr4 := H.cell (w.heap.size) 4 (.int .i64 o) (List.Mem.tail _ (List.Mem.tail _ (List.Mem.tail _ (List.Mem.tail _ (List.Mem.head _)))))
  have cr5 := H.cell (w.heap.size) 5 (.int .i64 1) (List.Mem.tail _ (List.Mem.tail _ (List.Mem.tail _ (List.Mem.tail _ (List.Mem.tail _ (List.Mem.head _))))))
  have cr6 := H.cell (w.heap.size) 6 (.int .i64 f) (List.Mem.tail _ (List.Mem.tail _ (List.Mem.tail _ (List.Mem.tail _ (List.Mem.tail _ (List.Mem.tail _ (List.Mem.head _)))))))
  have cr7 := H.cell (w.heap.size) 7 (.int .i64 t) (List.Mem.tail _ (List.Mem.tail _ (List.Mem.tail _ (List.Mem.tail _ (List.Mem.tail _ (List.Mem.tail _ (List.Mem.tail _ (List.Mem.head _))))))))
  have lr := H.lt (w.heap.size) 0 (.int .i64 k) (List.Mem.head _)
  go_wp2_with fail
  clear cr0 cr1 cr2 cr3 cr4 cr5 cr6 cr7 lr
  (with_reducible refine (rweek_is (a - 1) 4 _ HU.out).mono ?_)
  rintro e w7 ⟨rfl, hb⟩
  replace H := H.below hb
  clear hb
  have cr0 := H.cell (w.heap.size) 0 (.int .i64 k) (List.Mem.head _)
  have cr1 := H.cell (w.heap.size) 1 (.int .i64 m) (List.Mem.tail _ (List.Mem.head _))
  have cr2 := H.cell (w.heap.size) 2 (.int .i64 d) (List.Mem.tail _ (List.Mem.tail _ (List.Mem.head _)))
  have cr3 := H.cell (w.heap.size) 3 (.int .i64 q) (List.Mem.tail _ (List.Mem.tail _ (List.Mem.tail _ (List.Mem.head _))))
  have cr4 := H.cell (w.heap.size) 4 (.int .i64 o) (List.Mem.tail _ (List.Mem.tail _ (List.Mem.tail _ (List.Mem.tail _ (List.Mem.head _)))))
  have cr5 := H.cell (w.heap.size) 5 (.int .i64 1) (List.Mem.tail _ (List.Mem.tail _ (List.Mem.tail _ (List.Mem.tail _ (List.Mem.tail _ (List.Mem.head _))))))
  have cr6 := H.cell (w.heap.size) 6 (.int .i64 f) (List.Mem.tail _ (List.Mem.tail _ (List.Mem.tail _ (List.Mem.tail _ (List.Mem.tail _ (List.Mem.tail _ (List.Mem.head _)))))))
  have cr7 := H.cell (w.heap.size) 7 (.int .i64 t) (List.Mem.tail _ (List.Mem.tail _ (List.Mem.tail _ (List.Mem.tail _ (List.Mem.tail _ (List.Mem.tail _ (List.Mem.tail _ (List.Mem.head _))))))))
  have lr := H.lt (w.heap.size) 0 (.int .i64 k) (List.Mem.head _)
  go_wp2_with fail
  clear cr0 cr1 cr2 cr3 cr4 cr5 cr6 cr7 lr
  go_ret
  exact ⟨rfl, H.old⟩

set_option maxHeartbeats 8000000 in
set_option maxRecDepth 100000 in
theorem rushifts_b (K : RWay) (k m d q o s f t y a : Int) (w : World) (hL : FactsU w) (h : Ru.mb ⟨k, m, d, q, o, s, f, t⟩ = true) (hM : Ru.May ⟨k, m, d, q, o, s, f, t⟩) (ha : Ru.bas ⟨k, m, d, q, o, s, f, t⟩ y = a) (hab : decide ((0:Int) < a) = true) (hc : Ru.inn ⟨k, m, d, q, o, s, f, t⟩ y = (a + 2)) (hcb : decide ((0:Int) < (a + 2)) = true) (hd : decide (1 ≤ a ∧ a ≤ 3652059) = true) (hv : wk a = 5) (hu : wk (a + 2) = 0) (hs : s = 2) (hx : 1 ≤ a ∧ a ≤ 3652059) :
    Calls Tryd.prog 4 #[.agg #[.int .i64 k, .int .i64 m, .int .i64 d, .int .i64 q, .int .i64 o, .int .i64 s, .int .i64 f, .int .i64 t], .int .i64 y] w fun e w' => e = .returned (.bool true) ∧ Below w.heap.size w w' := by
  have H := (Held.start w).add (f := factsUF) hL
  clear hL
  have HM := Lib.hid h
  have MM := Lib.hid hM
  have HA := Lib.hid ha
  have AB := Lib.hid hab
  have HC := Lib.hid hc
  have CB := Lib.hid hcb
  have HD := Lib.hid hd
  have HV := Lib.hid hv
  have HU := Lib.hid hu
  clear h hM ha hab hc hcb hd hv hu
  subst hs
  go_enter Tryd.func4, Tryd.ntmps4
  go_wp2_with fail
  replace H := (H.oct (w.heap.size) (.int .i64 k) (.int .i64 m) (.int .i64 d) (.int .i64 q) (.int .i64 o) (.int .i64 2) (.int .i64 f) (.int .i64 t) 23 rfl)
  (with_reducible refine (rushown_any K _ (H.factsU (List.Mem.tail _ (List.Mem.tail _ (List.Mem.tail _ (List.Mem.tail _ (List.Mem.tail _ (List.Mem.tail _ (List.Mem.tail _ (List.Mem.tail _ (List.Mem.tail _ (List.Mem.tail _ (List.Mem.tail _ (List.Mem.tail _ (List.Mem.tail _ (List.Mem.tail _ (List.Mem.tail _ (List.Mem.tail _ (List.Mem.head _))))))))))))))))))).mono ?_)
  rintro e w1 ⟨rfl, hb⟩
  replace H := H.below hb
  clear hb
  have cr0 := H.cell (w.heap.size) 0 (.int .i64 k) (List.Mem.head _)
  have cr1 := H.cell (w.heap.size) 1 (.int .i64 m) (List.Mem.tail _ (List.Mem.head _))
  have cr2 := H.cell (w.heap.size) 2 (.int .i64 d) (List.Mem.tail _ (List.Mem.tail _ (List.Mem.head _)))
  have cr3 := H.cell (w.heap.size) 3 (.int .i64 q) (List.Mem.tail _ (List.Mem.tail _ (List.Mem.tail _ (List.Mem.head _))))
  have cr4 := H.cell (w.heap.size) 4 (.int .i64 o) (List.Mem.tail _ (List.Mem.tail _ (List.Mem.tail _ (List.Mem.tail _ (List.Mem.head _)))))
  have cr5 := H.cell (w.heap.size) 5 (.int .i64 2) (List.Mem.tail _ (List.Mem.tail _ (List.Mem.tail _ (List.Mem.tail _ (List.Mem.tail _ (List.Mem.head _))))))
  have cr6 := H.cell (w.heap.size) 6 (.int .i64 f) (List.Mem.tail _ (List.Mem.tail _ (List.Mem.tail _ (List.Mem.tail _ (List.Mem.tail _ (List.Mem.tail _ (List.Mem.head _)))))))
  have cr7 := H.cell (w.heap.size) 7 (.int .i64 t) (List.Mem.tail _ (List.Mem.tail _ (List.Mem.tail _ (List.Mem.tail _ (List.Mem.tail _ (List.Mem.tail _ (List.Mem.tail _ (List.Mem.head _))))))))
  have lr := H.lt (w.heap.size) 0 (.int .i64 k) (List.Mem.head _)
  go_wp2_with fail
  clear cr0 cr1 cr2 cr3 cr4 cr5 cr6 cr7 lr
  (with_reducible refine (rumay_any k m d q o 2 f t true _ HM.out).mono ?_)
  rintro e w2 ⟨rfl, hb⟩
  replace H := H.below hb
  clear hb
  have cr0 := H.cell (w.heap.size) 0 (.int .i64 k) (List.Mem.head _)
  have cr1 := H.cell (w.heap.size) 1 (.int .i64 m) (List.Mem.tail _ (List.Mem.head _))
  have cr2 := H.cell (w.heap.size) 2 (.int .i64 d) (List.Mem.tail _ (List.Mem.tail _ (List.Mem.head _)))
  have cr3 := H.cell (w.heap.size) 3 (.int .i64 q) (List.Mem.tail _ (List.Mem.tail _ (List.Mem.tail _ (List.Mem.head _))))
  have cr4 := H.cell (w.heap.size) 4 (.int .i64 o) (List.Mem.tail _ (List.Mem.tail _ (List.Mem.tail _ (List.Mem.tail _ (List.Mem.head _)))))
  have cr5 := H.cell (w.heap.size) 5 (.int .i64 2) (List.Mem.tail _ (List.Mem.tail _ (List.Mem.tail _ (List.Mem.tail _ (List.Mem.tail _ (List.Mem.head _))))))
  have cr6 := H.cell (w.heap.size) 6 (.int .i64 f) (List.Mem.tail _ (List.Mem.tail _ (List.Mem.tail _ (List.Mem.tail _ (List.Mem.tail _ (List.Mem.tail _ (List.Mem.head _)))))))
  have cr7 := H.cell (w.heap.size) 7 (.int .i64 t) (List.Mem.tail _ (List.Mem.tail _ (List.Mem.tail _ (List.Mem.tail _ (List.Mem.tail _ (List.Mem.tail _ (List.Mem.tail _ (List.Mem.head _))))))))
  have lr := H.lt (w.heap.size) 0 (.int .i64 k) (List.Mem.head _)
  go_wp2_with fail
  clear cr0 cr1 cr2 cr3 cr4 cr5 cr6 cr7 lr
  (with_reducible refine (K.base k m d q o 2 f t y a true _ (H.factsU (List.Mem.tail _ (List.Mem.tail _ (List.Mem.tail _ (List.Mem.tail _ (List.Mem.tail _ (List.Mem.tail _ (List.Mem.tail _ (List.Mem.tail _ (List.Mem.tail _ (List.Mem.tail _ (List.Mem.tail _ (List.Mem.tail _ (List.Mem.tail _ (List.Mem.tail _ (List.Mem.tail _ (List.Mem.tail _ (List.Mem.head _)))))))))))))))))) MM.out HA.out AB.out).mono ?_)
  rintro e w3 ⟨rfl, hb⟩
  replace H := H.below hb
  clear hb
  have cr0 := H.cell (w.heap.size) 0 (.int .i64 k) (List.Mem.head _)
  have cr1 := H.cell (w.heap.size) 1 (.int .i64 m) (List.Mem.tail _ (List.Mem.head _))
  have cr2 := H.cell (w.heap.size) 2 (.int .i64 d) (List.Mem.tail _ (List.Mem.tail _ (List.Mem.head _)))
  have cr3 := H.cell (w.heap.size) 3 (.int .i64 q) (List.Mem.tail _ (List.Mem.tail _ (List.Mem.tail _ (List.Mem.head _))))
  have cr4 := H.cell (w.heap.size) 4 (.int .i64 o) (List.Mem.tail _ (List.Mem.tail _ (List.Mem.tail _ (List.Mem.tail _ (List.Mem.head _)))))
  have cr5 := H.cell (w.heap.size) 5 (.int .i64 2) (List.Mem.tail _ (List.Mem.tail _ (List.Mem.tail _ (List.Mem.tail _ (List.Mem.tail _ (List.Mem.head _))))))
  have cr6 := H.cell (w.heap.size) 6 (.int .i64 f) (List.Mem.tail _ (List.Mem.tail _ (List.Mem.tail _ (List.Mem.tail _ (List.Mem.tail _ (List.Mem.tail _ (List.Mem.head _)))))))
  have cr7 := H.cell (w.heap.size) 7 (.int .i64 t) (List.Mem.tail _ (List.Mem.tail _ (List.Mem.tail _ (List.Mem.tail _ (List.Mem.tail _ (List.Mem.tail _ (List.Mem.tail _ (List.Mem.head _))))))))
  have lr := H.lt (w.heap.size) 0 (.int .i64 k) (List.Mem.head _)
  go_wp2_with fail
  clear cr0 cr1 cr2 cr3 cr4 cr5 cr6 cr7 lr
  (with_reducible refine (K.inn k m d q o 2 f t y (a + 2) true _ (H.factsU (List.Mem.tail _ (List.Mem.tail _ (List.Mem.tail _ (List.Mem.tail _ (List.Mem.tail _ (List.Mem.tail _ (List.Mem.tail _ (List.Mem.tail _ (List.Mem.tail _ (List.Mem.tail _ (List.Mem.tail _ (List.Mem.tail _ (List.Mem.tail _ (List.Mem.tail _ (List.Mem.tail _ (List.Mem.tail _ (List.Mem.head _)))))))))))))))))) MM.out HC.out CB.out).mono ?_)
  rintro e w4 ⟨rfl, hb⟩
  replace H := H.below hb
  clear hb
  have cr0 := H.cell (w.heap.size) 0 (.int .i64 k) (List.Mem.head _)
  have cr1 := H.cell (w.heap.size) 1 (.int .i64 m) (List.Mem.tail _ (List.Mem.head _))
  have cr2 := H.cell (w.heap.size) 2 (.int .i64 d) (List.Mem.tail _ (List.Mem.tail _ (List.Mem.head _)))
  have cr3 := H.cell (w.heap.size) 3 (.int .i64 q) (List.Mem.tail _ (List.Mem.tail _ (List.Mem.tail _ (List.Mem.head _))))
  have cr4 := H.cell (w.heap.size) 4 (.int .i64 o) (List.Mem.tail _ (List.Mem.tail _ (List.Mem.tail _ (List.Mem.tail _ (List.Mem.head _)))))
  have cr5 := H.cell (w.heap.size) 5 (.int .i64 2) (List.Mem.tail _ (List.Mem.tail _ (List.Mem.tail _ (List.Mem.tail _ (List.Mem.tail _ (List.Mem.head _))))))
  have cr6 := H.cell (w.heap.size) 6 (.int .i64 f) (List.Mem.tail _ (List.Mem.tail _ (List.Mem.tail _ (List.Mem.tail _ (List.Mem.tail _ (List.Mem.tail _ (List.Mem.head _)))))))
  have cr7 := H.cell (w.heap.size) 7 (.int .i64 t) (List.Mem.tail _ (List.Mem.tail _ (List.Mem.tail _ (List.Mem.tail _ (List.Mem.tail _ (List.Mem.tail _ (List.Mem.tail _ (List.Mem.head _))))))))
  have lr := H.lt (w.heap.size) 0 (.int .i64 k) (List.Mem.head _)
  go_wp2_with fail
  clear cr0 cr1 cr2 cr3 cr4 cr5 cr6 cr7 lr
  (with_reducible refine (rday12_is a true _ HD.out).mono ?_)
  rintro e w5 ⟨rfl, hb⟩
  replace H := H.below hb
  clear hb
  have cr0 := H.cell (w.heap.size) 0 (.int .i64 k) (List.Mem.head _)
  have cr1 := H.cell (w.heap.size) 1 (.int .i64 m) (List.Mem.tail _ (List.Mem.head _))
  have cr2 := H.cell (w.heap.size) 2 (.int .i64 d) (List.Mem.tail _ (List.Mem.tail _ (List.Mem.head _)))
  have cr3 := H.cell (w.heap.size) 3 (.int .i64 q) (List.Mem.tail _ (List.Mem.tail _ (List.Mem.tail _ (List.Mem.head _))))
  have cr4 := H.cell (w.heap.size) 4 (.int .i64 o) (List.Mem.tail _ (List.Mem.tail _ (List.Mem.tail _ (List.Mem.tail _ (List.Mem.head _)))))
  have cr5 := H.cell (w.heap.size) 5 (.int .i64 2) (List.Mem.tail _ (List.Mem.tail _ (List.Mem.tail _ (List.Mem.tail _ (List.Mem.tail _ (List.Mem.head _))))))
  have cr6 := H.cell (w.heap.size) 6 (.int .i64 f) (List.Mem.tail _ (List.Mem.tail _ (List.Mem.tail _ (List.Mem.tail _ (List.Mem.tail _ (List.Mem.tail _ (List.Mem.head _)))))))
  have cr7 := H.cell (w.heap.size) 7 (.int .i64 t) (List.Mem.tail _ (List.Mem.tail _ (List.Mem.tail _ (List.Mem.tail _ (List.Mem.tail _ (List.Mem.tail _ (List.Mem.tail _ (List.Mem.head _))))))))
  have lr := H.lt (w.heap.size) 0 (.int .i64 k) (List.Mem.head _)
  go_wp2_with fail
  clear cr0 cr1 cr2 cr3 cr4 cr5 cr6 cr7 lr
  (with_reducible refine (rweek_is a 5 _ HV.out).mono ?_)
  rintro e w6 ⟨rfl, hb⟩
  replace H := H.below hb
  clear hb
  have cr0 := H.cell (w.heap.size) 0 (.int .i64 k) (List.Mem.head _)
  have cr1 := H.cell (w.heap.size) 1 (.int .i64 m) (List.Mem.tail _ (List.Mem.head _))
  have cr2 := H.cell (w.heap.size) 2 (.int .i64 d) (List.Mem.tail _ (List.Mem.tail _ (List.Mem.head _)))
  have cr3 := H.cell (w.heap.size) 3 (.int .i64 q) (List.Mem.tail _ (List.Mem.tail _ (List.Mem.tail _ (List.Mem.head _))))
  have cr4 := H.cell (w.heap.size) 4 (.int .i64 o) (List.Mem.tail _ (List.Mem.tail _ (List.Mem.tail _ (List.Mem.tail _ (List.Mem.head _)))))
  have cr5 := H.cell (w.heap.size) 5 (.int .i64 2) (List.Mem.tail _ (List.Mem.tail _ (List.Mem.tail _ (List.Mem.tail _ (List.Mem.tail _ (List.Mem.head _))))))
  have cr6 := H.cell (w.heap.size) 6 (.int .i64 f) (List.Mem.tail _ (List.Mem.tail _ (List.Mem.tail _ (List.Mem.tail _ (List.Mem.tail _ (List.Mem.tail _ (List.Mem.head _)))))))
  have cr7 := H.cell (w.heap.size) 7 (.int .i64 t) (List.Mem.tail _ (List.Mem.tail _ (List.Mem.tail _ (List.Mem.tail _ (List.Mem.tail _ (List.Mem.tail _ (List.Mem.tail _ (List.Mem.head _))))))))
  have lr := H.lt (w.heap.size) 0 (.int .i64 k) (List.Mem.head _)
  go_wp2_with fail
  clear cr0 cr1 cr2 cr3 cr4 cr5 cr6 cr7 lr
  (with_reducible refine (rweek_is (a + 2) 0 _ HU.out).mono ?_)
  rintro e w7 ⟨rfl, hb⟩
  replace H := H.below hb
  clear hb
  have cr0 := H.cell (w.heap.size) 0 (.int .i64 k) (List.Mem.head _)
  have cr1 := H.cell (w.heap.size) 1 (.int .i64 m) (List.Mem.tail _ (List.Mem.head _))
  have cr2 := H.cell (w.heap.size) 2 (.int .i64 d) (List.Mem.tail _ (List.Mem.tail _ (List.Mem.head _)))
  have cr3 := H.cell (w.heap.size) 3 (.int .i64 q) (List.Mem.tail _ (List.Mem.tail _ (List.Mem.tail _ (List.Mem.head _))))
  have cr4 := H.cell (w.heap.size) 4 (.int .i64 o) (List.Mem.tail _ (List.Mem.tail _ (List.Mem.tail _ (List.Mem.tail _ (List.Mem.head _)))))
  have cr5 := H.cell (w.heap.size) 5 (.int .i64 2) (List.Mem.tail _ (List.Mem.tail _ (List.Mem.tail _ (List.Mem.tail _ (List.Mem.tail _ (List.Mem.head _))))))
  have cr6 := H.cell (w.heap.size) 6 (.int .i64 f) (List.Mem.tail _ (List.Mem.tail _ (List.Mem.tail _ (List.Mem.tail _ (List.Mem.tail _ (List.Mem.tail _ (List.Mem.head _)))))))
  have cr7 := H.cell (w.heap.size) 7 (.int .i64 t) (List.Mem.tail _ (List.Mem.tail _ (List.Mem.tail _ (List.Mem.tail _ (List.Mem.tail _ (List.Mem.tail _ (List.Mem.tail _ (List.Mem.head _))))))))
  have lr := H.lt (w.heap.size) 0 (.int .i64 k) (List.Mem.head _)
  go_wp2_with fail
  clear cr0 cr1 cr2 cr3 cr4 cr5 cr6 cr7 lr
  go_ret
  exact ⟨rfl, H.old⟩

set_option maxHeartbeats 8000000 in
set_option maxRecDepth 100000 in
theorem rushifts_c (K : RWay) (k m d q o s f t y a : Int) (w : World) (hL : FactsU w) (h : Ru.mb ⟨k, m, d, q, o, s, f, t⟩ = true) (hM : Ru.May ⟨k, m, d, q, o, s, f, t⟩) (ha : Ru.bas ⟨k, m, d, q, o, s, f, t⟩ y = a) (hab : decide ((0:Int) < a) = true) (hc : Ru.inn ⟨k, m, d, q, o, s, f, t⟩ y = (a + 1)) (hcb : decide ((0:Int) < (a + 1)) = true) (hd : decide (1 ≤ a ∧ a ≤ 3652059) = true) (hv : wk a = 6) (hu : wk (a + 1) = 0) (hs : s = 1) (hx : 1 ≤ a ∧ a ≤ 3652059) :
    Calls Tryd.prog 4 #[.agg #[.int .i64 k, .int .i64 m, .int .i64 d, .int .i64 q, .int .i64 o, .int .i64 s, .int .i64 f, .int .i64 t], .int .i64 y] w fun e w' => e = .returned (.bool true) ∧ Below w.heap.size w w' := by
  have H := (Held.start w).add (f := factsUF) hL
  clear hL
  have HM := Lib.hid h
  have MM := Lib.hid hM
  have HA := Lib.hid ha
  have AB := Lib.hid hab
  have HC := Lib.hid hc
  have CB := Lib.hid hcb
  have HD := Lib.hid hd
  have HV := Lib.hid hv
  have HU := Lib.hid hu
  clear h hM ha hab hc hcb hd hv hu
  subst hs
  go_enter Tryd.func4, Tryd.ntmps4
  go_wp2_with fail
  replace H := (H.oct (w.heap.size) (.int .i64 k) (.int .i64 m) (.int .i64 d) (.int .i64 q) (.int .i64 o) (.int .i64 1) (.int .i64 f) (.int .i64 t) 23 rfl)
  (with_reducible refine (rushown_any K _ (H.factsU (List.Mem.tail _ (List.Mem.tail _ (List.Mem.tail _ (List.Mem.tail _ (List.Mem.tail _ (List.Mem.tail _ (List.Mem.tail _ (List.Mem.tail _ (List.Mem.tail _ (List.Mem.tail _ (List.Mem.tail _ (List.Mem.tail _ (List.Mem.tail _ (List.Mem.tail _ (List.Mem.tail _ (List.Mem.tail _ (List.Mem.head _))))))))))))))))))).mono ?_)
  rintro e w1 ⟨rfl, hb⟩
  replace H := H.below hb
  clear hb
  have cr0 := H.cell (w.heap.size) 0 (.int .i64 k) (List.Mem.head _)
  have cr1 := H.cell (w.heap.size) 1 (.int .i64 m) (List.Mem.tail _ (List.Mem.head _))
  have cr2 := H.cell (w.heap.size) 2 (.int .i64 d) (List.Mem.tail _ (List.Mem.tail _ (List.Mem.head _)))
  have cr3 := H.cell (w.heap.size) 3 (.int .i64 q) (List.Mem.tail _ (List.Mem.tail _ (List.Mem.tail _ (List.Mem.head _))))
  have cr4 := H.cell (w.heap.size) 4 (.int .i64 o) (List.Mem.tail _ (List.Mem.tail _ (List.Mem.tail _ (List.Mem.tail _ (List.Mem.head _)))))
  have cr5 := H.cell (w.heap.size) 5 (.int .i64 1) (List.Mem.tail _ (List.Mem.tail _ (List.Mem.tail _ (List.Mem.tail _ (List.Mem.tail _ (List.Mem.head _))))))
  have cr6 := H.cell (w.heap.size) 6 (.int .i64 f) (List.Mem.tail _ (List.Mem.tail _ (List.Mem.tail _ (List.Mem.tail _ (List.Mem.tail _ (List.Mem.tail _ (List.Mem.head _)))))))
  have cr7 := H.cell (w.heap.size) 7 (.int .i64 t) (List.Mem.tail _ (List.Mem.tail _ (List.Mem.tail _ (List.Mem.tail _ (List.Mem.tail _ (List.Mem.tail _ (List.Mem.tail _ (List.Mem.head _))))))))
  have lr := H.lt (w.heap.size) 0 (.int .i64 k) (List.Mem.head _)
  go_wp2_with fail
  clear cr0 cr1 cr2 cr3 cr4 cr5 cr6 cr7 lr
  (with_reducible refine (rumay_any k m d q o 1 f t true _ HM.out).mono ?_)
  rintro e w2 ⟨rfl, hb⟩
  replace H := H.below hb
  clear hb
  have cr0 := H.cell (w.heap.size) 0 (.int .i64 k) (List.Mem.head _)
  have cr1 := H.cell (w.heap.size) 1 (.int .i64 m) (List.Mem.tail _ (List.Mem.head _))
  have cr2 := H.cell (w.heap.size) 2 (.int .i64 d) (List.Mem.tail _ (List.Mem.tail _ (List.Mem.head _)))
  have cr3 := H.cell (w.heap.size) 3 (.int .i64 q) (List.Mem.tail _ (List.Mem.tail _ (List.Mem.tail _ (List.Mem.head _))))
  have cr4 := H.cell (w.heap.size) 4 (.int .i64 o) (List.Mem.tail _ (List.Mem.tail _ (List.Mem.tail _ (List.Mem.tail _ (List.Mem.head _)))))
  have cr5 := H.cell (w.heap.size) 5 (.int .i64 1) (List.Mem.tail _ (List.Mem.tail _ (List.Mem.tail _ (List.Mem.tail _ (List.Mem.tail _ (List.Mem.head _))))))
  have cr6 := H.cell (w.heap.size) 6 (.int .i64 f) (List.Mem.tail _ (List.Mem.tail _ (List.Mem.tail _ (List.Mem.tail _ (List.Mem.tail _ (List.Mem.tail _ (List.Mem.head _)))))))
  have cr7 := H.cell (w.heap.size) 7 (.int .i64 t) (List.Mem.tail _ (List.Mem.tail _ (List.Mem.tail _ (List.Mem.tail _ (List.Mem.tail _ (List.Mem.tail _ (List.Mem.tail _ (List.Mem.head _))))))))
  have lr := H.lt (w.heap.size) 0 (.int .i64 k) (List.Mem.head _)
  go_wp2_with fail
  clear cr0 cr1 cr2 cr3 cr4 cr5 cr6 cr7 lr
  (with_reducible refine (K.base k m d q o 1 f t y a true _ (H.factsU (List.Mem.tail _ (List.Mem.tail _ (List.Mem.tail _ (List.Mem.tail _ (List.Mem.tail _ (List.Mem.tail _ (List.Mem.tail _ (List.Mem.tail _ (List.Mem.tail _ (List.Mem.tail _ (List.Mem.tail _ (List.Mem.tail _ (List.Mem.tail _ (List.Mem.tail _ (List.Mem.tail _ (List.Mem.tail _ (List.Mem.head _)))))))))))))))))) MM.out HA.out AB.out).mono ?_)
  rintro e w3 ⟨rfl, hb⟩
  replace H := H.below hb
  clear hb
  have cr0 := H.cell (w.heap.size) 0 (.int .i64 k) (List.Mem.head _)
  have cr1 := H.cell (w.heap.size) 1 (.int .i64 m) (List.Mem.tail _ (List.Mem.head _))
  have cr2 := H.cell (w.heap.size) 2 (.int .i64 d) (List.Mem.tail _ (List.Mem.tail _ (List.Mem.head _)))
  have cr3 := H.cell (w.heap.size) 3 (.int .i64 q) (List.Mem.tail _ (List.Mem.tail _ (List.Mem.tail _ (List.Mem.head _))))
  have cr4 := H.cell (w.heap.size) 4 (.int .i64 o) (List.Mem.tail _ (List.Mem.tail _ (List.Mem.tail _ (List.Mem.tail _ (List.Mem.head _)))))
  have cr5 := H.cell (w.heap.size) 5 (.int .i64 1) (List.Mem.tail _ (List.Mem.tail _ (List.Mem.tail _ (List.Mem.tail _ (List.Mem.tail _ (List.Mem.head _))))))
  have cr6 := H.cell (w.heap.size) 6 (.int .i64 f) (List.Mem.tail _ (List.Mem.tail _ (List.Mem.tail _ (List.Mem.tail _ (List.Mem.tail _ (List.Mem.tail _ (List.Mem.head _)))))))
  have cr7 := H.cell (w.heap.size) 7 (.int .i64 t) (List.Mem.tail _ (List.Mem.tail _ (List.Mem.tail _ (List.Mem.tail _ (List.Mem.tail _ (List.Mem.tail _ (List.Mem.tail _ (List.Mem.head _))))))))
  have lr := H.lt (w.heap.size) 0 (.int .i64 k) (List.Mem.head _)
  go_wp2_with fail
  clear cr0 cr1 cr2 cr3 cr4 cr5 cr6 cr7 lr
  (with_reducible refine (K.inn k m d q o 1 f t y (a + 1) true _ (H.factsU (List.Mem.tail _ (List.Mem.tail _ (List.Mem.tail _ (List.Mem.tail _ (List.Mem.tail _ (List.Mem.tail _ (List.Mem.tail _ (List.Mem.tail _ (List.Mem.tail _ (List.Mem.tail _ (List.Mem.tail _ (List.Mem.tail _ (List.Mem.tail _ (List.Mem.tail _ (List.Mem.tail _ (List.Mem.tail _ (List.Mem.head _)))))))))))))))))) MM.out HC.out CB.out).mono ?_)
  rintro e w4 ⟨rfl, hb⟩
  replace H := H.below hb
  clear hb
  have cr0 := H.cell (w.heap.size) 0 (.int .i64 k) (List.Mem.head _)
  have cr1 := H.cell (w.heap.size) 1 (.int .i64 m) (List.Mem.tail _ (List.Mem.head _))
  have cr2 := H.cell (w.heap.size) 2 (.int .i64 d) (List.Mem.tail _ (List.Mem.tail _ (List.Mem.head _)))
  have cr3 := H.cell (w.heap.size) 3 (.int .i64 q) (List.Mem.tail _ (List.Mem.tail _ (List.Mem.tail _ (List.Mem.head _))))
  have cr4 := H.cell (w.heap.size) 4 (.int .i64 o) (List.Mem.tail _ (List.Mem.tail _ (List.Mem.tail _ (List.Mem.tail _ (List.Mem.head _)))))
  have cr5 := H.cell (w.heap.size) 5 (.int .i64 1) (List.Mem.tail _ (List.Mem.tail _ (List.Mem.tail _ (List.Mem.tail _ (List.Mem.tail _ (List.Mem.head _))))))
  have cr6 := H.cell (w.heap.size) 6 (.int .i64 f) (List.Mem.tail _ (List.Mem.tail _ (List.Mem.tail _ (List.Mem.tail _ (List.Mem.tail _ (List.Mem.tail _ (List.Mem.head _)))))))
  have cr7 := H.cell (w.heap.size) 7 (.int .i64 t) (List.Mem.tail _ (List.Mem.tail _ (List.Mem.tail _ (List.Mem.tail _ (List.Mem.tail _ (List.Mem.tail _ (List.Mem.tail _ (List.Mem.head _))))))))
  have lr := H.lt (w.heap.size) 0 (.int .i64 k) (List.Mem.head _)
  go_wp2_with fail
  clear cr0 cr1 cr2 cr3 cr4 cr5 cr6 cr7 lr
  (with_reducible refine (rday12_is a true _ HD.out).mono ?_)
  rintro e w5 ⟨rfl, hb⟩
  replace H := H.below hb
  clear hb
  have cr0 := H.cell (w.heap.size) 0 (.int .i64 k) (List.Mem.head _)
  have cr1 := H.cell (w.heap.size) 1 (.int .i64 m) (List.Mem.tail _ (List.Mem.head _))
  have cr2 := H.cell (w.heap.size) 2 (.int .i64 d) (List.Mem.tail _ (List.Mem.tail _ (List.Mem.head _)))
  have cr3 := H.cell (w.heap.size) 3 (.int .i64 q) (List.Mem.tail _ (List.Mem.tail _ (List.Mem.tail _ (List.Mem.head _))))
  have cr4 := H.cell (w.heap.size) 4 (.int .i64 o) (List.Mem.tail _ (List.Mem.tail _ (List.Mem.tail _ (List.Mem.tail _ (List.Mem.head _)))))
  have cr5 := H.cell (w.heap.size) 5 (.int .i64 1) (List.Mem.tail _ (List.Mem.tail _ (List.Mem.tail _ (List.Mem.tail _ (List.Mem.tail _ (List.Mem.head _))))))
  have cr6 := H.cell (w.heap.size) 6 (.int .i64 f) (List.Mem.tail _ (List.Mem.tail _ (List.Mem.tail _ (List.Mem.tail _ (List.Mem.tail _ (List.Mem.tail _ (List.Mem.head _)))))))
  have cr7 := H.cell (w.heap.size) 7 (.int .i64 t) (List.Mem.tail _ (List.Mem.tail _ (List.Mem.tail _ (List.Mem.tail _ (List.Mem.tail _ (List.Mem.tail _ (List.Mem.tail _ (List.Mem.head _))))))))
  have lr := H.lt (w.heap.size) 0 (.int .i64 k) (List.Mem.head _)
  go_wp2_with fail
  clear cr0 cr1 cr2 cr3 cr4 cr5 cr6 cr7 lr
  (with_reducible refine (rweek_is a 6 _ HV.out).mono ?_)
  rintro e w6 ⟨rfl, hb⟩
  replace H := H.below hb
  clear hb
  have cr0 := H.cell (w.heap.size) 0 (.int .i64 k) (List.Mem.head _)
  have cr1 := H.cell (w.heap.size) 1 (.int .i64 m) (List.Mem.tail _ (List.Mem.head _))
  have cr2 := H.cell (w.heap.size) 2 (.int .i64 d) (List.Mem.tail _ (List.Mem.tail _ (List.Mem.head _)))
  have cr3 := H.cell (w.heap.size) 3 (.int .i64 q) (List.Mem.tail _ (List.Mem.tail _ (List.Mem.tail _ (List.Mem.head _))))
  have cr4 := H.cell (w.heap.size) 4 (.int .i64 o) (List.Mem.tail _ (List.Mem.tail _ (List.Mem.tail _ (List.Mem.tail _ (List.Mem.head _)))))
  have cr5 := H.cell (w.heap.size) 5 (.int .i64 1) (List.Mem.tail _ (List.Mem.tail _ (List.Mem.tail _ (List.Mem.tail _ (List.Mem.tail _ (List.Mem.head _))))))
  have cr6 := H.cell (w.heap.size) 6 (.int .i64 f) (List.Mem.tail _ (List.Mem.tail _ (List.Mem.tail _ (List.Mem.tail _ (List.Mem.tail _ (List.Mem.tail _ (List.Mem.head _)))))))
  have cr7 := H.cell (w.heap.size) 7 (.int .i64 t) (List.Mem.tail _ (List.Mem.tail _ (List.Mem.tail _ (List.Mem.tail _ (List.Mem.tail _ (List.Mem.tail _ (List.Mem.tail _ (List.Mem.head _))))))))
  have lr := H.lt (w.heap.size) 0 (.int .i64 k) (List.Mem.head _)
  go_wp2_with fail
  clear cr0 cr1 cr2 cr3 cr4 cr5 cr6 cr7 lr
  (with_reducible refine (rweek_is (a + 1) 0 _ HU.out).mono ?_)
  rintro e w7 ⟨rfl, hb⟩
  replace H := H.below hb
  clear hb
  have cr0 := H.cell (w.heap.size) 0 (.int .i64 k) (List.Mem.head _)
  have cr1 := H.cell (w.heap.size) 1 (.int .i64 m) (List.Mem.tail _ (List.Mem.head _))
  have cr2 := H.cell (w.heap.size) 2 (.int .i64 d) (List.Mem.tail _ (List.Mem.tail _ (List.Mem.head _)))
  have cr3 := H.cell (w.heap.size) 3 (.int .i64 q) (List.Mem.tail _ (List.Mem.tail _ (List.Mem.tail _ (List.Mem.head _))))
  have cr4 := H.cell (w.heap.size) 4 (.int .i64 o) (List.Mem.tail _ (List.Mem.tail _ (List.Mem.tail _ (List.Mem.tail _ (List.Mem.head _)))))
  have cr5 := H.cell (w.heap.size) 5 (.int .i64 1) (List.Mem.tail _ (List.Mem.tail _ (List.Mem.tail _ (List.Mem.tail _ (List.Mem.tail _ (List.Mem.head _))))))
  have cr6 := H.cell (w.heap.size) 6 (.int .i64 f) (List.Mem.tail _ (List.Mem.tail _ (List.Mem.tail _ (List.Mem.tail _ (List.Mem.tail _ (List.Mem.tail _ (List.Mem.head _)))))))
  have cr7 := H.cell (w.heap.size) 7 (.int .i64 t) (List.Mem.tail _ (List.Mem.tail _ (List.Mem.tail _ (List.Mem.tail _ (List.Mem.tail _ (List.Mem.tail _ (List.Mem.tail _ (List.Mem.head _))))))))
  have lr := H.lt (w.heap.size) 0 (.int .i64 k) (List.Mem.head _)
  go_wp2_with fail
  clear cr0 cr1 cr2 cr3 cr4 cr5 cr6 cr7 lr
  go_ret
  exact ⟨rfl, H.old⟩

set_option maxHeartbeats 8000000 in
set_option maxRecDepth 100000 in
theorem rushifts_d (K : RWay) (k m d q o s f t y a : Int) (w : World) (hL : FactsU w) (h : Ru.mb ⟨k, m, d, q, o, s, f, t⟩ = true) (hM : Ru.May ⟨k, m, d, q, o, s, f, t⟩) (ha : Ru.bas ⟨k, m, d, q, o, s, f, t⟩ y = a) (hab : decide ((0:Int) < a) = true) (hc : Ru.inn ⟨k, m, d, q, o, s, f, t⟩ y = (a + 1)) (hcb : decide ((0:Int) < (a + 1)) = true) (hd : decide (1 ≤ a ∧ a ≤ 3652059) = true) (hv : wk a = 6) (hu : wk (a + 1) = 0) (hs : s = 2) (hx : 1 ≤ a ∧ a ≤ 3652059) :
    Calls Tryd.prog 4 #[.agg #[.int .i64 k, .int .i64 m, .int .i64 d, .int .i64 q, .int .i64 o, .int .i64 s, .int .i64 f, .int .i64 t], .int .i64 y] w fun e w' => e = .returned (.bool true) ∧ Below w.heap.size w w' := by
  have H := (Held.start w).add (f := factsUF) hL
  clear hL
  have HM := Lib.hid h
  have MM := Lib.hid hM
  have HA := Lib.hid ha
  have AB := Lib.hid hab
  have HC := Lib.hid hc
  have CB := Lib.hid hcb
  have HD := Lib.hid hd
  have HV := Lib.hid hv
  have HU := Lib.hid hu
  clear h hM ha hab hc hcb hd hv hu
  subst hs
  go_enter Tryd.func4, Tryd.ntmps4
  go_wp2_with fail
  replace H := (H.oct (w.heap.size) (.int .i64 k) (.int .i64 m) (.int .i64 d) (.int .i64 q) (.int .i64 o) (.int .i64 2) (.int .i64 f) (.int .i64 t) 23 rfl)
  (with_reducible refine (rushown_any K _ (H.factsU (List.Mem.tail _ (List.Mem.tail _ (List.Mem.tail _ (List.Mem.tail _ (List.Mem.tail _ (List.Mem.tail _ (List.Mem.tail _ (List.Mem.tail _ (List.Mem.tail _ (List.Mem.tail _ (List.Mem.tail _ (List.Mem.tail _ (List.Mem.tail _ (List.Mem.tail _ (List.Mem.tail _ (List.Mem.tail _ (List.Mem.head _))))))))))))))))))).mono ?_)
  rintro e w1 ⟨rfl, hb⟩
  replace H := H.below hb
  clear hb
  have cr0 := H.cell (w.heap.size) 0 (.int .i64 k) (List.Mem.head _)
  have cr1 := H.cell (w.heap.size) 1 (.int .i64 m) (List.Mem.tail _ (List.Mem.head _))
  have cr2 := H.cell (w.heap.size) 2 (.int .i64 d) (List.Mem.tail _ (List.Mem.tail _ (List.Mem.head _)))
  have cr3 := H.cell (w.heap.size) 3 (.int .i64 q) (List.Mem.tail _ (List.Mem.tail _ (List.Mem.tail _ (List.Mem.head _))))
  have cr4 := H.cell (w.heap.size) 4 (.int .i64 o) (List.Mem.tail _ (List.Mem.tail _ (List.Mem.tail _ (List.Mem.tail _ (List.Mem.head _)))))
  have cr5 := H.cell (w.heap.size) 5 (.int .i64 2) (List.Mem.tail _ (List.Mem.tail _ (List.Mem.tail _ (List.Mem.tail _ (List.Mem.tail _ (List.Mem.head _))))))
  have cr6 := H.cell (w.heap.size) 6 (.int .i64 f) (List.Mem.tail _ (List.Mem.tail _ (List.Mem.tail _ (List.Mem.tail _ (List.Mem.tail _ (List.Mem.tail _ (List.Mem.head _)))))))
  have cr7 := H.cell (w.heap.size) 7 (.int .i64 t) (List.Mem.tail _ (List.Mem.tail _ (List.Mem.tail _ (List.Mem.tail _ (List.Mem.tail _ (List.Mem.tail _ (List.Mem.tail _ (List.Mem.head _))))))))
  have lr := H.lt (w.heap.size) 0 (.int .i64 k) (List.Mem.head _)
  go_wp2_with fail
  clear cr0 cr1 cr2 cr3 cr4 cr5 cr6 cr7 lr
  (with_reducible refine (rumay_any k m d q o 2 f t true _ HM.out).mono ?_)
  rintro e w2 ⟨rfl, hb⟩
  replace H := H.below hb
  clear hb
  have cr0 := H.cell (w.heap.size) 0 (.int .i64 k) (List.Mem.head _)
  have cr1 := H.cell (w.heap.size) 1 (.int .i64 m) (List.Mem.tail _ (List.Mem.head _))
  have cr2 := H.cell (w.heap.size) 2 (.int .i64 d) (List.Mem.tail _ (List.Mem.tail _ (List.Mem.head _)))
  have cr3 := H.cell (w.heap.size) 3 (.int .i64 q) (List.Mem.tail _ (List.Mem.tail _ (List.Mem.tail _ (List.Mem.head _))))
  have cr4 := H.cell (w.heap.size) 4 (.int .i64 o) (List.Mem.tail _ (List.Mem.tail _ (List.Mem.tail _ (List.Mem.tail _ (List.Mem.head _)))))
  have cr5 := H.cell (w.heap.size) 5 (.int .i64 2) (List.Mem.tail _ (List.Mem.tail _ (List.Mem.tail _ (List.Mem.tail _ (List.Mem.tail _ (List.Mem.head _))))))
  have cr6 := H.cell (w.heap.size) 6 (.int .i64 f) (List.Mem.tail _ (List.Mem.tail _ (List.Mem.tail _ (List.Mem.tail _ (List.Mem.tail _ (List.Mem.tail _ (List.Mem.head _)))))))
  have cr7 := H.cell (w.heap.size) 7 (.int .i64 t) (List.Mem.tail _ (List.Mem.tail _ (List.Mem.tail _ (List.Mem.tail _ (List.Mem.tail _ (List.Mem.tail _ (List.Mem.tail _ (List.Mem.head _))))))))
  have lr := H.lt (w.heap.size) 0 (.int .i64 k) (List.Mem.head _)
  go_wp2_with fail
  clear cr0 cr1 cr2 cr3 cr4 cr5 cr6 cr7 lr
  (with_reducible refine (K.base k m d q o 2 f t y a true _ (H.factsU (List.Mem.tail _ (List.Mem.tail _ (List.Mem.tail _ (List.Mem.tail _ (List.Mem.tail _ (List.Mem.tail _ (List.Mem.tail _ (List.Mem.tail _ (List.Mem.tail _ (List.Mem.tail _ (List.Mem.tail _ (List.Mem.tail _ (List.Mem.tail _ (List.Mem.tail _ (List.Mem.tail _ (List.Mem.tail _ (List.Mem.head _)))))))))))))))))) MM.out HA.out AB.out).mono ?_)
  rintro e w3 ⟨rfl, hb⟩
  replace H := H.below hb
  clear hb
  have cr0 := H.cell (w.heap.size) 0 (.int .i64 k) (List.Mem.head _)
  have cr1 := H.cell (w.heap.size) 1 (.int .i64 m) (List.Mem.tail _ (List.Mem.head _))
  have cr2 := H.cell (w.heap.size) 2 (.int .i64 d) (List.Mem.tail _ (List.Mem.tail _ (List.Mem.head _)))
  have cr3 := H.cell (w.heap.size) 3 (.int .i64 q) (List.Mem.tail _ (List.Mem.tail _ (List.Mem.tail _ (List.Mem.head _))))
  have cr4 := H.cell (w.heap.size) 4 (.int .i64 o) (List.Mem.tail _ (List.Mem.tail _ (List.Mem.tail _ (List.Mem.tail _ (List.Mem.head _)))))
  have cr5 := H.cell (w.heap.size) 5 (.int .i64 2) (List.Mem.tail _ (List.Mem.tail _ (List.Mem.tail _ (List.Mem.tail _ (List.Mem.tail _ (List.Mem.head _))))))
  have cr6 := H.cell (w.heap.size) 6 (.int .i64 f) (List.Mem.tail _ (List.Mem.tail _ (List.Mem.tail _ (List.Mem.tail _ (List.Mem.tail _ (List.Mem.tail _ (List.Mem.head _)))))))
  have cr7 := H.cell (w.heap.size) 7 (.int .i64 t) (List.Mem.tail _ (List.Mem.tail _ (List.Mem.tail _ (List.Mem.tail _ (List.Mem.tail _ (List.Mem.tail _ (List.Mem.tail _ (List.Mem.head _))))))))
  have lr := H.lt (w.heap.size) 0 (.int .i64 k) (List.Mem.head _)
  go_wp2_with fail
  clear cr0 cr1 cr2 cr3 cr4 cr5 cr6 cr7 lr
  (with_reducible refine (K.inn k m d q o 2 f t y (a + 1) true _ (H.factsU (List.Mem.tail _ (List.Mem.tail _ (List.Mem.tail _ (List.Mem.tail _ (List.Mem.tail _ (List.Mem.tail _ (List.Mem.tail _ (List.Mem.tail _ (List.Mem.tail _ (List.Mem.tail _ (List.Mem.tail _ (List.Mem.tail _ (List.Mem.tail _ (List.Mem.tail _ (List.Mem.tail _ (List.Mem.tail _ (List.Mem.head _)))))))))))))))))) MM.out HC.out CB.out).mono ?_)
  rintro e w4 ⟨rfl, hb⟩
  replace H := H.below hb
  clear hb
  have cr0 := H.cell (w.heap.size) 0 (.int .i64 k) (List.Mem.head _)
  have cr1 := H.cell (w.heap.size) 1 (.int .i64 m) (List.Mem.tail _ (List.Mem.head _))
  have cr2 := H.cell (w.heap.size) 2 (.int .i64 d) (List.Mem.tail _ (List.Mem.tail _ (List.Mem.head _)))
  have cr3 := H.cell (w.heap.size) 3 (.int .i64 q) (List.Mem.tail _ (List.Mem.tail _ (List.Mem.tail _ (List.Mem.head _))))
  have cr4 := H.cell (w.heap.size) 4 (.int .i64 o) (List.Mem.tail _ (List.Mem.tail _ (List.Mem.tail _ (List.Mem.tail _ (List.Mem.head _)))))
  have cr5 := H.cell (w.heap.size) 5 (.int .i64 2) (List.Mem.tail _ (List.Mem.tail _ (List.Mem.tail _ (List.Mem.tail _ (List.Mem.tail _ (List.Mem.head _))))))
  have cr6 := H.cell (w.heap.size) 6 (.int .i64 f) (List.Mem.tail _ (List.Mem.tail _ (List.Mem.tail _ (List.Mem.tail _ (List.Mem.tail _ (List.Mem.tail _ (List.Mem.head _)))))))
  have cr7 := H.cell (w.heap.size) 7 (.int .i64 t) (List.Mem.tail _ (List.Mem.tail _ (List.Mem.tail _ (List.Mem.tail _ (List.Mem.tail _ (List.Mem.tail _ (List.Mem.tail _ (List.Mem.head _))))))))
  have lr := H.lt (w.heap.size) 0 (.int .i64 k) (List.Mem.head _)
  go_wp2_with fail
  clear cr0 cr1 cr2 cr3 cr4 cr5 cr6 cr7 lr
  (with_reducible refine (rday12_is a true _ HD.out).mono ?_)
  rintro e w5 ⟨rfl, hb⟩
  replace H := H.below hb
  clear hb
  have cr0 := H.cell (w.heap.size) 0 (.int .i64 k) (List.Mem.head _)
  have cr1 := H.cell (w.heap.size) 1 (.int .i64 m) (List.Mem.tail _ (List.Mem.head _))
  have cr2 := H.cell (w.heap.size) 2 (.int .i64 d) (List.Mem.tail _ (List.Mem.tail _ (List.Mem.head _)))
  have cr3 := H.cell (w.heap.size) 3 (.int .i64 q) (List.Mem.tail _ (List.Mem.tail _ (List.Mem.tail _ (List.Mem.head _))))
  have cr4 := H.cell (w.heap.size) 4 (.int .i64 o) (List.Mem.tail _ (List.Mem.tail _ (List.Mem.tail _ (List.Mem.tail _ (List.Mem.head _)))))
  have cr5 := H.cell (w.heap.size) 5 (.int .i64 2) (List.Mem.tail _ (List.Mem.tail _ (List.Mem.tail _ (List.Mem.tail _ (List.Mem.tail _ (List.Mem.head _))))))
  have cr6 := H.cell (w.heap.size) 6 (.int .i64 f) (List.Mem.tail _ (List.Mem.tail _ (List.Mem.tail _ (List.Mem.tail _ (List.Mem.tail _ (List.Mem.tail _ (List.Mem.head _)))))))
  have cr7 := H.cell (w.heap.size) 7 (.int .i64 t) (List.Mem.tail _ (List.Mem.tail _ (List.Mem.tail _ (List.Mem.tail _ (List.Mem.tail _ (List.Mem.tail _ (List.Mem.tail _ (List.Mem.head _))))))))
  have lr := H.lt (w.heap.size) 0 (.int .i64 k) (List.Mem.head _)
  go_wp2_with fail
  clear cr0 cr1 cr2 cr3 cr4 cr5 cr6 cr7 lr
  (with_reducible refine (rweek_is a 6 _ HV.out).mono ?_)
  rintro e w6 ⟨rfl, hb⟩
  replace H := H.below hb
  clear hb
  have cr0 := H.cell (w.heap.size) 0 (.int .i64 k) (List.Mem.head _)
  have cr1 := H.cell (w.heap.size) 1 (.int .i64 m) (List.Mem.tail _ (List.Mem.head _))
  have cr2 := H.cell (w.heap.size) 2 (.int .i64 d) (List.Mem.tail _ (List.Mem.tail _ (List.Mem.head _)))
  have cr3 := H.cell (w.heap.size) 3 (.int .i64 q) (List.Mem.tail _ (List.Mem.tail _ (List.Mem.tail _ (List.Mem.head _))))
  have cr4 := H.cell (w.heap.size) 4 (.int .i64 o) (List.Mem.tail _ (List.Mem.tail _ (List.Mem.tail _ (List.Mem.tail _ (List.Mem.head _)))))
  have cr5 := H.cell (w.heap.size) 5 (.int .i64 2) (List.Mem.tail _ (List.Mem.tail _ (List.Mem.tail _ (List.Mem.tail _ (List.Mem.tail _ (List.Mem.head _))))))
  have cr6 := H.cell (w.heap.size) 6 (.int .i64 f) (List.Mem.tail _ (List.Mem.tail _ (List.Mem.tail _ (List.Mem.tail _ (List.Mem.tail _ (List.Mem.tail _ (List.Mem.head _)))))))
  have cr7 := H.cell (w.heap.size) 7 (.int .i64 t) (List.Mem.tail _ (List.Mem.tail _ (List.Mem.tail _ (List.Mem.tail _ (List.Mem.tail _ (List.Mem.tail _ (List.Mem.tail _ (List.Mem.head _))))))))
  have lr := H.lt (w.heap.size) 0 (.int .i64 k) (List.Mem.head _)
  go_wp2_with fail
  clear cr0 cr1 cr2 cr3 cr4 cr5 cr6 cr7 lr
  (with_reducible refine (rweek_is (a + 1) 0 _ HU.out).mono ?_)
  rintro e w7 ⟨rfl, hb⟩
  replace H := H.below hb
  clear hb
  have cr0 := H.cell (w.heap.size) 0 (.int .i64 k) (List.Mem.head _)
  have cr1 := H.cell (w.heap.size) 1 (.int .i64 m) (List.Mem.tail _ (List.Mem.head _))
  have cr2 := H.cell (w.heap.size) 2 (.int .i64 d) (List.Mem.tail _ (List.Mem.tail _ (List.Mem.head _)))
  have cr3 := H.cell (w.heap.size) 3 (.int .i64 q) (List.Mem.tail _ (List.Mem.tail _ (List.Mem.tail _ (List.Mem.head _))))
  have cr4 := H.cell (w.heap.size) 4 (.int .i64 o) (List.Mem.tail _ (List.Mem.tail _ (List.Mem.tail _ (List.Mem.tail _ (List.Mem.head _)))))
  have cr5 := H.cell (w.heap.size) 5 (.int .i64 2) (List.Mem.tail _ (List.Mem.tail _ (List.Mem.tail _ (List.Mem.tail _ (List.Mem.tail _ (List.Mem.head _))))))
  have cr6 := H.cell (w.heap.size) 6 (.int .i64 f) (List.Mem.tail _ (List.Mem.tail _ (List.Mem.tail _ (List.Mem.tail _ (List.Mem.tail _ (List.Mem.tail _ (List.Mem.head _)))))))
  have cr7 := H.cell (w.heap.size) 7 (.int .i64 t) (List.Mem.tail _ (List.Mem.tail _ (List.Mem.tail _ (List.Mem.tail _ (List.Mem.tail _ (List.Mem.tail _ (List.Mem.tail _ (List.Mem.head _))))))))
  have lr := H.lt (w.heap.size) 0 (.int .i64 k) (List.Mem.head _)
  go_wp2_with fail
  clear cr0 cr1 cr2 cr3 cr4 cr5 cr6 cr7 lr
  go_ret
  exact ⟨rfl, H.old⟩

theorem rushifts_walk (K : RWay) (k m d q o s f t y : Int) (w : World) (hL : FactsU w) (hk : -9223372036854775808 ≤ k ∧ k < 9223372036854775808) (hm : -9223372036854775808 ≤ m ∧ m < 9223372036854775808) (hd : -9223372036854775808 ≤ d ∧ d < 9223372036854775808) (hq : -9223372036854775808 ≤ q ∧ q < 9223372036854775808) (ho : -9223372036854775808 ≤ o ∧ o < 9223372036854775808) (hs : -9223372036854775808 ≤ s ∧ s < 9223372036854775808) (hf : -9223372036854775808 ≤ f ∧ f < 9223372036854775808) (ht : -9223372036854775808 ≤ t ∧ t < 9223372036854775808) (hy : -9223372036854775808 ≤ y ∧ y < 9223372036854775808) :
    Calls Tryd.prog 4 #[.agg #[.int .i64 k, .int .i64 m, .int .i64 d, .int .i64 q, .int .i64 o, .int .i64 s, .int .i64 f, .int .i64 t], .int .i64 y] w fun e w' => e = .returned (.bool true) ∧ Below w.heap.size w w' := by
  by_cases h : Ru.May ⟨k, m, d, q, o, s, f, t⟩
  · obtain ⟨a, ha⟩ : ∃ a, Ru.bas ⟨k, m, d, q, o, s, f, t⟩ y = a := ⟨_, rfl⟩
    obtain ⟨c, hc⟩ : ∃ c, Ru.inn ⟨k, m, d, q, o, s, f, t⟩ y = c := ⟨_, rfl⟩
    have ab := bas_bd y h
    rw [ha] at ab
    by_cases a0 : a = 0
    · subst a0
      exact rushifts_none K k m d q o s f t y w hL (ru_yes h) h ha (by decide) (inn_out ha) (by decide)
    · have hd : decide (1 ≤ a ∧ a ≤ 3652059) = true := decide_eq_true (by omega)
      have h1 : decide (0 < a) = true := decide_eq_true (by omega)
      have hs := h.2.1
      simp only at hs
      have val : ∀ z, shd s a = z → (1 ≤ z ∧ z ≤ 3652059 → Ru.inn ⟨k, m, d, q, o, s, f, t⟩ y = z ∧ decide (0 < z) = true) ∧ (¬ (1 ≤ z ∧ z ≤ 3652059) → Ru.inn ⟨k, m, d, q, o, s, f, t⟩ y = 0) := fun z hz => by
        unfold Ru.inn
        rw [ha]
        simp only
        rw [hz]
        refine ⟨fun g => ⟨if_pos ⟨by omega, g.1, g.2⟩, decide_eq_true (by omega)⟩, fun g => if_neg (by omega)⟩
      have wb : 0 ≤ wk a ∧ wk a ≤ 6 := by unfold wk; omega
      by_cases st : s = 0 ∨ wk a < 5
      · have v := (val a (by unfold shd; rw [if_neg (by omega), if_neg (by omega), if_neg (by omega)])).1 (by omega)
        exact rushifts_stay K k m d q o s f t y a _ w hL (ru_yes h) h ha h1 v.1 v.2 hd rfl st
      · have st2 : s ≠ 0 ∧ ¬ wk a < 5 := by omega
        by_cases w5 : wk a = 5
        · by_cases s1 : s = 1
          · have v := val (a - 1) (by unfold shd; rw [if_pos ⟨s1, w5⟩])
            by_cases g : 1 ≤ a - 1 ∧ a - 1 ≤ 3652059
            · exact rushifts_a K k m d q o s f t y a w hL (ru_yes h) h ha h1 (v.1 g).1 (v.1 g).2 hd w5 (by unfold wk at w5 ⊢; omega) s1 (by omega)
            · exact rushifts_out K k m d q o s f t y a _ w hL (ru_yes h) h ha h1 (v.2 g) (by decide) hd rfl st2 (by omega)
          · have v := val (a + 2) (by unfold shd; rw [if_neg (fun x => s1 x.1), if_pos ⟨by omega, w5⟩])
            by_cases g : 1 ≤ a + 2 ∧ a + 2 ≤ 3652059
            · exact rushifts_b K k m d q o s f t y a w hL (ru_yes h) h ha h1 (v.1 g).1 (v.1 g).2 hd w5 (by unfold wk at w5 ⊢; omega) (by omega) (by omega)
            · exact rushifts_out K k m d q o s f t y a _ w hL (ru_yes h) h ha h1 (v.2 g) (by decide) hd rfl st2 (by omega)
        · have w6 : wk a = 6 := by omega
          have v := val (a + 1) (by unfold shd; rw [if_neg (by omega), if_neg (by omega), if_pos (by omega)])
          by_cases g : 1 ≤ a + 1 ∧ a + 1 ≤ 3652059
          · by_cases s1 : s = 1
            · exact rushifts_c K k m d q o s f t y a w hL (ru_yes h) h ha h1 (v.1 g).1 (v.1 g).2 hd w6 (by unfold wk at w6 ⊢; omega) s1 (by omega)
            · exact rushifts_d K k m d q o s f t y a w hL (ru_yes h) h ha h1 (v.1 g).1 (v.1 g).2 hd w6 (by unfold wk at w6 ⊢; omega) (by omega) (by omega)
          · exact rushifts_out K k m d q o s f t y a _ w hL (ru_yes h) h ha h1 (v.2 g) (by decide) hd rfl st2 (by omega)
  · exact rushifts_no K k m d q o s f t y w hL (ru_no h)
end Go.Proofs.YtdnpljljjnjmdaaDoor
