/- CalUnites: the walk, a case (Y). -/
import Derived.Test.YtkadodkdbopgnaaDoorCaUniA
namespace Go.Proofs.YtkadodkdbopgnaaDoor
open Go.RowKit
set_option linter.unusedVariables false
set_option linter.unusedSimpArgs false


set_option maxHeartbeats 8000000 in
set_option maxRecDepth 100000 in
theorem caunites_Y0 (K : CalWay) (a : Ca) (aRa : Option Addr) (cRa : Nat) (aDa : Option Addr) (cDa : Nat) (b : Ca) (aRb : Option Addr) (cRb : Nat) (aDb : Option Addr) (cDb : Nat) (n m d q h : Int) (w : World) (hL : FactsV w) (hCa : CalAt w a aRa cRa aDa cDa) (hCb : CalAt w b aRb cRb aDb cDb) (fa : decide (a.nr ≤ 12 ∧ a.nd ≤ 60) = true) (fb : decide (b.nr ≤ 12 ∧ b.nd ≤ 60) = true) (za : a.Small) (zb : b.Small) (ea : a.Few) (eb : b.Few) (ma : a.May) (mb : b.May) (t1 : decide (m > n) = false) (hm : ManyIs a n m q h) (mx : (a.un b).May) :
    Calls Tryd.prog 4 #[.agg #[.bool (a.o 0), .bool (a.o 1), .bool (a.o 2), .bool (a.o 3), .bool (a.o 4), .bool (a.o 5), .bool (a.o 6), .slice aRa a.nr cRa, .slice aDa a.nd cDa, .bool (b.o 0), .bool (b.o 1), .bool (b.o 2), .bool (b.o 3), .bool (b.o 4), .bool (b.o 5), .bool (b.o 6), .slice aRb b.nr cRb, .slice aDb b.nd cDb, .int .i64 n, .int .i64 m]] w fun e w' => e = .returned (.bool true) ∧ Below w.heap.size w w' := by
  have H := (((Held.start w).add (f := factsVF) hL).add (f := calF a aRa cRa aDa cDa) hCa).add (f := calF b aRb cRb aDb cDb) hCb
  clear hL hCa hCb
  have HFA := Lib.hid fa
  have HFB := Lib.hid fb
  have HZA := Lib.hid za
  have HZB := Lib.hid zb
  have EA := Lib.hid ea
  have EB := Lib.hid eb
  have MA := Lib.hid ma
  have MB := Lib.hid mb
  have HMN := Lib.hid hm
  have MX := Lib.hid mx
  clear fa fb za zb ea eb ma mb hm mx
  go_enter Tryd.func4, Tryd.ntmps4
  go_wp2_with fail
  replace H := (((H.box_20 (w.heap.size) (.bool (a.o 0)) (.bool (a.o 1)) (.bool (a.o 2)) (.bool (a.o 3)) (.bool (a.o 4)) (.bool (a.o 5)) (.bool (a.o 6)) (.slice aRa a.nr cRa) (.slice aDa a.nd cDa) (.bool (b.o 0)) (.bool (b.o 1)) (.bool (b.o 2)) (.bool (b.o 3)) (.bool (b.o 4)) (.bool (b.o 5)) (.bool (b.o 6)) (.slice aRb b.nr cRb) (.slice aDb b.nd cDb) (.int .i64 n) (.int .i64 m) 31 rfl).box_9 (w.heap.size + 1) (.bool (a.o 0)) (.bool (a.o 1)) (.bool (a.o 2)) (.bool (a.o 3)) (.bool (a.o 4)) (.bool (a.o 5)) (.bool (a.o 6)) (.slice aRa a.nr cRa) (.slice aDa a.nd cDa) 26 (by simp)).box_9 (w.heap.size + 2) (.bool (b.o 0)) (.bool (b.o 1)) (.bool (b.o 2)) (.bool (b.o 3)) (.bool (b.o 4)) (.bool (b.o 5)) (.bool (b.o 6)) (.slice aRb b.nr cRb) (.slice aDb b.nd cDb) 26 (by simp))
  (with_reducible refine (cashown_any K _ (H.factsV (mt32 (mt32 (mt8 (mt1 (mt1 (mt1 (mt1 (mt1 (mt1 mh))))))))))).mono ?_)
  rintro e w1 ⟨rfl, hb⟩
  replace H := H.below hb
  clear hb
  have ca0 := H.cell (w.heap.size + 1) 0 (.bool (a.o 0)) (mt8 (mt8 (mt1 (mt1 mh))))
  have ca1 := H.cell (w.heap.size + 1) 1 (.bool (a.o 1)) (mt8 (mt8 (mt1 (mt1 (mt1 mh)))))
  have ca2 := H.cell (w.heap.size + 1) 2 (.bool (a.o 2)) (mt8 (mt8 (mt1 (mt1 (mt1 (mt1 mh))))))
  have ca3 := H.cell (w.heap.size + 1) 3 (.bool (a.o 3)) (mt8 (mt8 (mt1 (mt1 (mt1 (mt1 (mt1 mh)))))))
  have ca4 := H.cell (w.heap.size + 1) 4 (.bool (a.o 4)) (mt8 (mt8 (mt1 (mt1 (mt1 (mt1 (mt1 (mt1 mh))))))))
  have ca5 := H.cell (w.heap.size + 1) 5 (.bool (a.o 5)) (mt8 (mt8 (mt1 (mt1 (mt1 (mt1 (mt1 (mt1 (mt1 mh)))))))))
  have ca6 := H.cell (w.heap.size + 1) 6 (.bool (a.o 6)) (mt8 (mt8 (mt8 mh)))
  have ca7 := H.cell (w.heap.size + 1) 7 (.slice aRa a.nr cRa) (mt8 (mt8 (mt8 (mt1 mh))))
  have ca8 := H.cell (w.heap.size + 1) 8 (.slice aDa a.nd cDa) (mt8 (mt8 (mt8 (mt1 (mt1 mh)))))
  have la := H.lt (w.heap.size + 1) 0 (.bool (a.o 0)) (mt8 (mt8 (mt1 (mt1 mh))))
  go_wp2_with fail
  clear ca0 ca1 ca2 ca3 ca4 ca5 ca6 ca7 ca8 la
  (with_reducible refine (few_any a aRa cRa aDa cDa true _ HFA.out).mono ?_)
  rintro e w2 ⟨rfl, hb⟩
  replace H := H.below hb
  clear hb
  have cb0 := H.cell (w.heap.size + 2) 0 (.bool (b.o 0)) mh
  have cb1 := H.cell (w.heap.size + 2) 1 (.bool (b.o 1)) (mt1 mh)
  have cb2 := H.cell (w.heap.size + 2) 2 (.bool (b.o 2)) (mt1 (mt1 mh))
  have cb3 := H.cell (w.heap.size + 2) 3 (.bool (b.o 3)) (mt1 (mt1 (mt1 mh)))
  have cb4 := H.cell (w.heap.size + 2) 4 (.bool (b.o 4)) (mt1 (mt1 (mt1 (mt1 mh))))
  have cb5 := H.cell (w.heap.size + 2) 5 (.bool (b.o 5)) (mt1 (mt1 (mt1 (mt1 (mt1 mh)))))
  have cb6 := H.cell (w.heap.size + 2) 6 (.bool (b.o 6)) (mt1 (mt1 (mt1 (mt1 (mt1 (mt1 mh))))))
  have cb7 := H.cell (w.heap.size + 2) 7 (.slice aRb b.nr cRb) (mt1 (mt1 (mt1 (mt1 (mt1 (mt1 (mt1 mh)))))))
  have cb8 := H.cell (w.heap.size + 2) 8 (.slice aDb b.nd cDb) (mt8 mh)
  have lb := H.lt (w.heap.size + 2) 0 (.bool (b.o 0)) mh
  go_wp2_with fail
  clear cb0 cb1 cb2 cb3 cb4 cb5 cb6 cb7 cb8 lb
  (with_reducible refine (few_any b aRb cRb aDb cDb true _ HFB.out).mono ?_)
  rintro e w3 ⟨rfl, hb⟩
  replace H := H.below hb
  clear hb
  have ca0 := H.cell (w.heap.size + 1) 0 (.bool (a.o 0)) (mt8 (mt8 (mt1 (mt1 mh))))
  have ca1 := H.cell (w.heap.size + 1) 1 (.bool (a.o 1)) (mt8 (mt8 (mt1 (mt1 (mt1 mh)))))
  have ca2 := H.cell (w.heap.size + 1) 2 (.bool (a.o 2)) (mt8 (mt8 (mt1 (mt1 (mt1 (mt1 mh))))))
  have ca3 := H.cell (w.heap.size + 1) 3 (.bool (a.o 3)) (mt8 (mt8 (mt1 (mt1 (mt1 (mt1 (mt1 mh)))))))
  have ca4 := H.cell (w.heap.size + 1) 4 (.bool (a.o 4)) (mt8 (mt8 (mt1 (mt1 (mt1 (mt1 (mt1 (mt1 mh))))))))
  have ca5 := H.cell (w.heap.size + 1) 5 (.bool (a.o 5)) (mt8 (mt8 (mt1 (mt1 (mt1 (mt1 (mt1 (mt1 (mt1 mh)))))))))
  have ca6 := H.cell (w.heap.size + 1) 6 (.bool (a.o 6)) (mt8 (mt8 (mt8 mh)))
  have ca7 := H.cell (w.heap.size + 1) 7 (.slice aRa a.nr cRa) (mt8 (mt8 (mt8 (mt1 mh))))
  have ca8 := H.cell (w.heap.size + 1) 8 (.slice aDa a.nd cDa) (mt8 (mt8 (mt8 (mt1 (mt1 mh)))))
  have la := H.lt (w.heap.size + 1) 0 (.bool (a.o 0)) (mt8 (mt8 (mt1 (mt1 mh))))
  go_wp2_with fail
  clear ca0 ca1 ca2 ca3 ca4 ca5 ca6 ca7 ca8 la
  (with_reducible refine (rcmay_any a aRa cRa aDa cDa true _ HZA.out (H.cal (mt32 (mt32 (mt8 (mt1 (mt1 (mt1 (mt1 (mt1 mh))))))))) ⟨fun _ => MA.out, fun _ => rfl⟩).mono ?_)
  rintro e w4 ⟨rfl, hb⟩
  replace H := H.below hb
  clear hb
  have cb0 := H.cell (w.heap.size + 2) 0 (.bool (b.o 0)) mh
  have cb1 := H.cell (w.heap.size + 2) 1 (.bool (b.o 1)) (mt1 mh)
  have cb2 := H.cell (w.heap.size + 2) 2 (.bool (b.o 2)) (mt1 (mt1 mh))
  have cb3 := H.cell (w.heap.size + 2) 3 (.bool (b.o 3)) (mt1 (mt1 (mt1 mh)))
  have cb4 := H.cell (w.heap.size + 2) 4 (.bool (b.o 4)) (mt1 (mt1 (mt1 (mt1 mh))))
  have cb5 := H.cell (w.heap.size + 2) 5 (.bool (b.o 5)) (mt1 (mt1 (mt1 (mt1 (mt1 mh)))))
  have cb6 := H.cell (w.heap.size + 2) 6 (.bool (b.o 6)) (mt1 (mt1 (mt1 (mt1 (mt1 (mt1 mh))))))
  have cb7 := H.cell (w.heap.size + 2) 7 (.slice aRb b.nr cRb) (mt1 (mt1 (mt1 (mt1 (mt1 (mt1 (mt1 mh)))))))
  have cb8 := H.cell (w.heap.size + 2) 8 (.slice aDb b.nd cDb) (mt8 mh)
  have lb := H.lt (w.heap.size + 2) 0 (.bool (b.o 0)) mh
  go_wp2_with fail
  clear cb0 cb1 cb2 cb3 cb4 cb5 cb6 cb7 cb8 lb
  (with_reducible refine (rcmay_any b aRb cRb aDb cDb true _ HZB.out (H.cal (mt32 (mt32 (mt8 (mt1 (mt1 (mt1 (mt1 mh)))))))) ⟨fun _ => MB.out, fun _ => rfl⟩).mono ?_)
  rintro e w5 ⟨rfl, hb⟩
  replace H := H.below hb
  clear hb
  have ca0 := H.cell (w.heap.size + 1) 0 (.bool (a.o 0)) (mt8 (mt8 (mt1 (mt1 mh))))
  have ca1 := H.cell (w.heap.size + 1) 1 (.bool (a.o 1)) (mt8 (mt8 (mt1 (mt1 (mt1 mh)))))
  have ca2 := H.cell (w.heap.size + 1) 2 (.bool (a.o 2)) (mt8 (mt8 (mt1 (mt1 (mt1 (mt1 mh))))))
  have ca3 := H.cell (w.heap.size + 1) 3 (.bool (a.o 3)) (mt8 (mt8 (mt1 (mt1 (mt1 (mt1 (mt1 mh)))))))
  have ca4 := H.cell (w.heap.size + 1) 4 (.bool (a.o 4)) (mt8 (mt8 (mt1 (mt1 (mt1 (mt1 (mt1 (mt1 mh))))))))
  have ca5 := H.cell (w.heap.size + 1) 5 (.bool (a.o 5)) (mt8 (mt8 (mt1 (mt1 (mt1 (mt1 (mt1 (mt1 (mt1 mh)))))))))
  have ca6 := H.cell (w.heap.size + 1) 6 (.bool (a.o 6)) (mt8 (mt8 (mt8 mh)))
  have ca7 := H.cell (w.heap.size + 1) 7 (.slice aRa a.nr cRa) (mt8 (mt8 (mt8 (mt1 mh))))
  have ca8 := H.cell (w.heap.size + 1) 8 (.slice aDa a.nd cDa) (mt8 (mt8 (mt8 (mt1 (mt1 mh)))))
  have la := H.lt (w.heap.size + 1) 0 (.bool (a.o 0)) (mt8 (mt8 (mt1 (mt1 mh))))
  have cb0 := H.cell (w.heap.size + 2) 0 (.bool (b.o 0)) mh
  have cb1 := H.cell (w.heap.size + 2) 1 (.bool (b.o 1)) (mt1 mh)
  have cb2 := H.cell (w.heap.size + 2) 2 (.bool (b.o 2)) (mt1 (mt1 mh))
  have cb3 := H.cell (w.heap.size + 2) 3 (.bool (b.o 3)) (mt1 (mt1 (mt1 mh)))
  have cb4 := H.cell (w.heap.size + 2) 4 (.bool (b.o 4)) (mt1 (mt1 (mt1 (mt1 mh))))
  have cb5 := H.cell (w.heap.size + 2) 5 (.bool (b.o 5)) (mt1 (mt1 (mt1 (mt1 (mt1 mh)))))
  have cb6 := H.cell (w.heap.size + 2) 6 (.bool (b.o 6)) (mt1 (mt1 (mt1 (mt1 (mt1 (mt1 mh))))))
  have cb7 := H.cell (w.heap.size + 2) 7 (.slice aRb b.nr cRb) (mt1 (mt1 (mt1 (mt1 (mt1 (mt1 (mt1 mh)))))))
  have cb8 := H.cell (w.heap.size + 2) 8 (.slice aDb b.nd cDb) (mt8 mh)
  have lb := H.lt (w.heap.size + 2) 0 (.bool (b.o 0)) mh
  go_wp2_with fail
  clear ca0 ca1 ca2 ca3 ca4 ca5 ca6 ca7 ca8 la cb0 cb1 cb2 cb3 cb4 cb5 cb6 cb7 cb8 lb
  (with_reducible refine (quy K a aRa cRa aDa cDa b aRb cRb aDb cDb _ (H.factsV (mt32 (mt32 (mt8 (mt1 (mt1 (mt1 (mt1 (mt1 (mt1 mh)))))))))) EA.out EB.out MA.out MB.out (H.cal (mt32 (mt32 (mt8 (mt1 (mt1 (mt1 (mt1 (mt1 mh))))))))) (H.cal (mt32 (mt32 (mt8 (mt1 (mt1 (mt1 (mt1 mh)))))))) MX.out).mono ?_)
  rintro e w6 ⟨aRx, cRx, aDx, cDx, rfl, hC, hb⟩
  replace H := H.below hb
  clear hb
  replace H := H.add (f := calF (a.un b) aRx cRx aDx cDx) hC
  clear hC
  have ca0 := H.cell (w.heap.size + 1) 0 (.bool (a.o 0)) (mt8 (mt8 (mt1 (mt1 (mt1 mh)))))
  have ca1 := H.cell (w.heap.size + 1) 1 (.bool (a.o 1)) (mt8 (mt8 (mt1 (mt1 (mt1 (mt1 mh))))))
  have ca2 := H.cell (w.heap.size + 1) 2 (.bool (a.o 2)) (mt8 (mt8 (mt1 (mt1 (mt1 (mt1 (mt1 mh)))))))
  have ca3 := H.cell (w.heap.size + 1) 3 (.bool (a.o 3)) (mt8 (mt8 (mt1 (mt1 (mt1 (mt1 (mt1 (mt1 mh))))))))
  have ca4 := H.cell (w.heap.size + 1) 4 (.bool (a.o 4)) (mt8 (mt8 (mt1 (mt1 (mt1 (mt1 (mt1 (mt1 (mt1 mh)))))))))
  have ca5 := H.cell (w.heap.size + 1) 5 (.bool (a.o 5)) (mt8 (mt8 (mt8 mh)))
  have ca6 := H.cell (w.heap.size + 1) 6 (.bool (a.o 6)) (mt8 (mt8 (mt8 (mt1 mh))))
  have ca7 := H.cell (w.heap.size + 1) 7 (.slice aRa a.nr cRa) (mt8 (mt8 (mt8 (mt1 (mt1 mh)))))
  have ca8 := H.cell (w.heap.size + 1) 8 (.slice aDa a.nd cDa) (mt8 (mt8 (mt8 (mt1 (mt1 (mt1 mh))))))
  have la := H.lt (w.heap.size + 1) 0 (.bool (a.o 0)) (mt8 (mt8 (mt1 (mt1 (mt1 mh)))))
  have cb0 := H.cell (w.heap.size + 2) 0 (.bool (b.o 0)) (mt1 mh)
  have cb1 := H.cell (w.heap.size + 2) 1 (.bool (b.o 1)) (mt1 (mt1 mh))
  have cb2 := H.cell (w.heap.size + 2) 2 (.bool (b.o 2)) (mt1 (mt1 (mt1 mh)))
  have cb3 := H.cell (w.heap.size + 2) 3 (.bool (b.o 3)) (mt1 (mt1 (mt1 (mt1 mh))))
  have cb4 := H.cell (w.heap.size + 2) 4 (.bool (b.o 4)) (mt1 (mt1 (mt1 (mt1 (mt1 mh)))))
  have cb5 := H.cell (w.heap.size + 2) 5 (.bool (b.o 5)) (mt1 (mt1 (mt1 (mt1 (mt1 (mt1 mh))))))
  have cb6 := H.cell (w.heap.size + 2) 6 (.bool (b.o 6)) (mt1 (mt1 (mt1 (mt1 (mt1 (mt1 (mt1 mh)))))))
  have cb7 := H.cell (w.heap.size + 2) 7 (.slice aRb b.nr cRb) (mt8 mh)
  have cb8 := H.cell (w.heap.size + 2) 8 (.slice aDb b.nd cDb) (mt8 (mt1 mh))
  have lb := H.lt (w.heap.size + 2) 0 (.bool (b.o 0)) (mt1 mh)
  go_wp2_with fail
  clear ca0 ca1 ca2 ca3 ca4 ca5 ca6 ca7 ca8 la cb0 cb1 cb2 cb3 cb4 cb5 cb6 cb7 cb8 lb
  replace H := (H.box_9 (w6.heap.size) (.bool (a.o 0 || b.o 0)) (.bool (a.o 1 || b.o 1)) (.bool (a.o 2 || b.o 2)) (.bool (a.o 3 || b.o 3)) (.bool (a.o 4 || b.o 4)) (.bool (a.o 5 || b.o 5)) (.bool (a.o 6 || b.o 6)) (.slice aRx (a.un b).nr cRx) (.slice aDx (a.un b).nd cDx) 26 rfl)
  (with_reducible refine (rquy a aRa cRa aDa cDa b aRb cRb aDb cDb _ (H.factsV (mt32 (mt32 (mt32 (mt1 mh))))) EA.out EB.out MA.out MB.out (H.cal (mt32 (mt32 (mt32 mh)))) (H.cal (mt32 (mt32 (mt8 (mt8 (mt8 (mt1 (mt1 (mt1 (mt1 (mt1 (mt1 (mt1 mh))))))))))))) MX.out).mono ?_)
  rintro e w7 ⟨aRy, cRy, aDy, cDy, rfl, hC, hb⟩
  replace H := H.below hb
  clear hb
  replace H := H.add (f := calF (a.un b) aRy cRy aDy cDy) hC
  clear hC
  have ca0 := H.cell (w.heap.size + 1) 0 (.bool (a.o 0)) (mt32 (mt1 (mt1 (mt1 (mt1 (mt1 (mt1 mh)))))))
  have ca1 := H.cell (w.heap.size + 1) 1 (.bool (a.o 1)) (mt32 (mt1 (mt1 (mt1 (mt1 (mt1 (mt1 (mt1 mh))))))))
  have ca2 := H.cell (w.heap.size + 1) 2 (.bool (a.o 2)) (mt32 (mt8 mh))
  have ca3 := H.cell (w.heap.size + 1) 3 (.bool (a.o 3)) (mt32 (mt8 (mt1 mh)))
  have ca4 := H.cell (w.heap.size + 1) 4 (.bool (a.o 4)) (mt32 (mt8 (mt1 (mt1 mh))))
  have ca5 := H.cell (w.heap.size + 1) 5 (.bool (a.o 5)) (mt32 (mt8 (mt1 (mt1 (mt1 mh)))))
  have ca6 := H.cell (w.heap.size + 1) 6 (.bool (a.o 6)) (mt32 (mt8 (mt1 (mt1 (mt1 (mt1 mh))))))
  have ca7 := H.cell (w.heap.size + 1) 7 (.slice aRa a.nr cRa) (mt32 (mt8 (mt1 (mt1 (mt1 (mt1 (mt1 mh)))))))
  have ca8 := H.cell (w.heap.size + 1) 8 (.slice aDa a.nd cDa) (mt32 (mt8 (mt1 (mt1 (mt1 (mt1 (mt1 (mt1 mh))))))))
  have la := H.lt (w.heap.size + 1) 0 (.bool (a.o 0)) (mt32 (mt1 (mt1 (mt1 (mt1 (mt1 (mt1 mh)))))))
  go_wp2_with fail
  clear ca0 ca1 ca2 ca3 ca4 ca5 ca6 ca7 ca8 la
  replace H := (H.box_9 (w7.heap.size) (.bool (a.o 0 || b.o 0)) (.bool (a.o 1 || b.o 1)) (.bool (a.o 2 || b.o 2)) (.bool (a.o 3 || b.o 3)) (.bool (a.o 4 || b.o 4)) (.bool (a.o 5 || b.o 5)) (.bool (a.o 6 || b.o 6)) (.slice aRy (a.un b).nr cRy) (.slice aDy (a.un b).nd cDy) 26 rfl)
  (with_reducible refine (K.many a aRa cRa aDa cDa n m q h _ (H.factsV (mt32 (mt32 (mt32 (mt8 (mt8 (mt1 (mt1 (mt1 (mt1 mh)))))))))) MA.out (H.cal (mt32 (mt32 (mt32 (mt8 (mt8 (mt1 (mt1 (mt1 mh))))))))) HMN.out).mono ?_)
  rintro e w8 ⟨rfl, hb⟩
  replace H := H.below hb
  clear hb
  have ca0 := H.cell (w.heap.size + 1) 0 (.bool (a.o 0)) (mt32 (mt8 (mt8 (mt8 mh))))
  have ca1 := H.cell (w.heap.size + 1) 1 (.bool (a.o 1)) (mt32 (mt8 (mt8 (mt8 (mt1 mh)))))
  have ca2 := H.cell (w.heap.size + 1) 2 (.bool (a.o 2)) (mt32 (mt8 (mt8 (mt8 (mt1 (mt1 mh))))))
  have ca3 := H.cell (w.heap.size + 1) 3 (.bool (a.o 3)) (mt32 (mt8 (mt8 (mt8 (mt1 (mt1 (mt1 mh)))))))
  have ca4 := H.cell (w.heap.size + 1) 4 (.bool (a.o 4)) (mt32 (mt8 (mt8 (mt8 (mt1 (mt1 (mt1 (mt1 mh))))))))
  have ca5 := H.cell (w.heap.size + 1) 5 (.bool (a.o 5)) (mt32 (mt8 (mt8 (mt8 (mt1 (mt1 (mt1 (mt1 (mt1 mh)))))))))
  have ca6 := H.cell (w.heap.size + 1) 6 (.bool (a.o 6)) (mt32 (mt8 (mt8 (mt8 (mt1 (mt1 (mt1 (mt1 (mt1 (mt1 mh))))))))))
  have ca7 := H.cell (w.heap.size + 1) 7 (.slice aRa a.nr cRa) (mt32 (mt8 (mt8 (mt8 (mt1 (mt1 (mt1 (mt1 (mt1 (mt1 (mt1 mh)))))))))))
  have ca8 := H.cell (w.heap.size + 1) 8 (.slice aDa a.nd cDa) (mt32 (mt32 mh))
  have la := H.lt (w.heap.size + 1) 0 (.bool (a.o 0)) (mt32 (mt8 (mt8 (mt8 mh))))
  go_wp2_with fail
  clear ca0 ca1 ca2 ca3 ca4 ca5 ca6 ca7 ca8 la
  (with_reducible refine (rcmany_any a aRa cRa aDa cDa n m q h _ HZA.out MA.out.rules (H.cal (mt32 (mt32 (mt32 (mt8 (mt8 (mt1 (mt1 (mt1 mh))))))))) HMN.out).mono ?_)
  rintro e w9 ⟨rfl, hb⟩
  replace H := H.below hb
  clear hb
  have cx20 := H.cell (w6.heap.size) 0 (.bool (a.o 0 || b.o 0)) (mt8 (mt8 (mt1 (mt1 (mt1 mh)))))
  have cx21 := H.cell (w6.heap.size) 1 (.bool (a.o 1 || b.o 1)) (mt8 (mt8 (mt1 (mt1 (mt1 (mt1 mh))))))
  have cx22 := H.cell (w6.heap.size) 2 (.bool (a.o 2 || b.o 2)) (mt8 (mt8 (mt1 (mt1 (mt1 (mt1 (mt1 mh)))))))
  have cx23 := H.cell (w6.heap.size) 3 (.bool (a.o 3 || b.o 3)) (mt8 (mt8 (mt1 (mt1 (mt1 (mt1 (mt1 (mt1 mh))))))))
  have cx24 := H.cell (w6.heap.size) 4 (.bool (a.o 4 || b.o 4)) (mt8 (mt8 (mt1 (mt1 (mt1 (mt1 (mt1 (mt1 (mt1 mh)))))))))
  have cx25 := H.cell (w6.heap.size) 5 (.bool (a.o 5 || b.o 5)) (mt8 (mt8 (mt8 mh)))
  have cx26 := H.cell (w6.heap.size) 6 (.bool (a.o 6 || b.o 6)) (mt8 (mt8 (mt8 (mt1 mh))))
  have cx27 := H.cell (w6.heap.size) 7 (.slice aRx (a.un b).nr cRx) (mt8 (mt8 (mt8 (mt1 (mt1 mh)))))
  have cx28 := H.cell (w6.heap.size) 8 (.slice aDx (a.un b).nd cDx) (mt8 (mt8 (mt8 (mt1 (mt1 (mt1 mh))))))
  have lx2 := H.lt (w6.heap.size) 0 (.bool (a.o 0 || b.o 0)) (mt8 (mt8 (mt1 (mt1 (mt1 mh)))))
  have cy20 := H.cell (w7.heap.size) 0 (.bool (a.o 0 || b.o 0)) mh
  have cy21 := H.cell (w7.heap.size) 1 (.bool (a.o 1 || b.o 1)) (mt1 mh)
  have cy22 := H.cell (w7.heap.size) 2 (.bool (a.o 2 || b.o 2)) (mt1 (mt1 mh))
  have cy23 := H.cell (w7.heap.size) 3 (.bool (a.o 3 || b.o 3)) (mt1 (mt1 (mt1 mh)))
  have cy24 := H.cell (w7.heap.size) 4 (.bool (a.o 4 || b.o 4)) (mt1 (mt1 (mt1 (mt1 mh))))
  have cy25 := H.cell (w7.heap.size) 5 (.bool (a.o 5 || b.o 5)) (mt1 (mt1 (mt1 (mt1 (mt1 mh)))))
  have cy26 := H.cell (w7.heap.size) 6 (.bool (a.o 6 || b.o 6)) (mt1 (mt1 (mt1 (mt1 (mt1 (mt1 mh))))))
  have cy27 := H.cell (w7.heap.size) 7 (.slice aRy (a.un b).nr cRy) (mt1 (mt1 (mt1 (mt1 (mt1 (mt1 (mt1 mh)))))))
  have cy28 := H.cell (w7.heap.size) 8 (.slice aDy (a.un b).nd cDy) (mt8 mh)
  have ly2 := H.lt (w7.heap.size) 0 (.bool (a.o 0 || b.o 0)) mh
  go_wp2_with fail
  clear cx20 cx21 cx22 cx23 cx24 cx25 cx26 cx27 cx28 lx2 cy20 cy21 cy22 cy23 cy24 cy25 cy26 cy27 cy28 ly2
  (with_reducible refine (qsame a b aRx cRx aDx cDx aRy cRy aDy cDy _ (un_small EA.out EB.out) (H.cal (mt32 (mt1 (mt1 (mt1 (mt1 (mt1 mh))))))) (H.cal (mt8 (mt8 (mt1 (mt1 mh)))))).mono ?_)
  rintro e w10 ⟨rfl, hb⟩
  replace H := H.below hb
  clear hb
  go_wp2_with fail
  go_ret
  exact ⟨rfl, H.old⟩

set_option maxHeartbeats 8000000 in
set_option maxRecDepth 100000 in
theorem caunites_Y1 (K : CalWay) (a : Ca) (aRa : Option Addr) (cRa : Nat) (aDa : Option Addr) (cDa : Nat) (b : Ca) (aRb : Option Addr) (cRb : Nat) (aDb : Option Addr) (cDb : Nat) (n m d q h : Int) (w : World) (hL : FactsV w) (hCa : CalAt w a aRa cRa aDa cDa) (hCb : CalAt w b aRb cRb aDb cDb) (fa : decide (a.nr ≤ 12 ∧ a.nd ≤ 60) = true) (fb : decide (b.nr ≤ 12 ∧ b.nd ≤ 60) = true) (za : a.Small) (zb : b.Small) (ea : a.Few) (eb : b.Few) (ma : a.May) (mb : b.May) (t1 : decide (m > n) = true) (hd : IntKind.i64.wrap (m - n) = d) (t2 : decide (d > 100) = false) (hm : ManyIs a n m q h) (mx : (a.un b).May) :
    Calls Tryd.prog 4 #[.agg #[.bool (a.o 0), .bool (a.o 1), .bool (a.o 2), .bool (a.o 3), .bool (a.o 4), .bool (a.o 5), .bool (a.o 6), .slice aRa a.nr cRa, .slice aDa a.nd cDa, .bool (b.o 0), .bool (b.o 1), .bool (b.o 2), .bool (b.o 3), .bool (b.o 4), .bool (b.o 5), .bool (b.o 6), .slice aRb b.nr cRb, .slice aDb b.nd cDb, .int .i64 n, .int .i64 m]] w fun e w' => e = .returned (.bool true) ∧ Below w.heap.size w w' := by
  have H := (((Held.start w).add (f := factsVF) hL).add (f := calF a aRa cRa aDa cDa) hCa).add (f := calF b aRb cRb aDb cDb) hCb
  clear hL hCa hCb
  have HFA := Lib.hid fa
  have HFB := Lib.hid fb
  have HZA := Lib.hid za
  have HZB := Lib.hid zb
  have EA := Lib.hid ea
  have EB := Lib.hid eb
  have MA := Lib.hid ma
  have MB := Lib.hid mb
  have HMN := Lib.hid hm
  have MX := Lib.hid mx
  clear fa fb za zb ea eb ma mb hm mx
  go_enter Tryd.func4, Tryd.ntmps4
  go_wp2_with fail
  replace H := (((H.box_20 (w.heap.size) (.bool (a.o 0)) (.bool (a.o 1)) (.bool (a.o 2)) (.bool (a.o 3)) (.bool (a.o 4)) (.bool (a.o 5)) (.bool (a.o 6)) (.slice aRa a.nr cRa) (.slice aDa a.nd cDa) (.bool (b.o 0)) (.bool (b.o 1)) (.bool (b.o 2)) (.bool (b.o 3)) (.bool (b.o 4)) (.bool (b.o 5)) (.bool (b.o 6)) (.slice aRb b.nr cRb) (.slice aDb b.nd cDb) (.int .i64 n) (.int .i64 m) 31 rfl).box_9 (w.heap.size + 1) (.bool (a.o 0)) (.bool (a.o 1)) (.bool (a.o 2)) (.bool (a.o 3)) (.bool (a.o 4)) (.bool (a.o 5)) (.bool (a.o 6)) (.slice aRa a.nr cRa) (.slice aDa a.nd cDa) 26 (by simp)).box_9 (w.heap.size + 2) (.bool (b.o 0)) (.bool (b.o 1)) (.bool (b.o 2)) (.bool (b.o 3)) (.bool (b.o 4)) (.bool (b.o 5)) (.bool (b.o 6)) (.slice aRb b.nr cRb) (.slice aDb b.nd cDb) 26 (by simp))
  (with_reducible refine (cashown_any K _ (H.factsV (mt32 (mt32 (mt8 (mt1 (mt1 (mt1 (mt1 (mt1 (mt1 mh))))))))))).mono ?_)
  rintro e w1 ⟨rfl, hb⟩
  replace H := H.below hb
  clear hb
  have ca0 := H.cell (w.heap.size + 1) 0 (.bool (a.o 0)) (mt8 (mt8 (mt1 (mt1 mh))))
  have ca1 := H.cell (w.heap.size + 1) 1 (.bool (a.o 1)) (mt8 (mt8 (mt1 (mt1 (mt1 mh)))))
  have ca2 := H.cell (w.heap.size + 1) 2 (.bool (a.o 2)) (mt8 (mt8 (mt1 (mt1 (mt1 (mt1 mh))))))
  have ca3 := H.cell (w.heap.size + 1) 3 (.bool (a.o 3)) (mt8 (mt8 (mt1 (mt1 (mt1 (mt1 (mt1 mh)))))))
  have ca4 := H.cell (w.heap.size + 1) 4 (.bool (a.o 4)) (mt8 (mt8 (mt1 (mt1 (mt1 (mt1 (mt1 (mt1 mh))))))))
  have ca5 := H.cell (w.heap.size + 1) 5 (.bool (a.o 5)) (mt8 (mt8 (mt1 (mt1 (mt1 (mt1 (mt1 (mt1 (mt1 mh)))))))))
  have ca6 := H.cell (w.heap.size + 1) 6 (.bool (a.o 6)) (mt8 (mt8 (mt8 mh)))
  have ca7 := H.cell (w.heap.size + 1) 7 (.slice aRa a.nr cRa) (mt8 (mt8 (mt8 (mt1 mh))))
  have ca8 := H.cell (w.heap.size + 1) 8 (.slice aDa a.nd cDa) (mt8 (mt8 (mt8 (mt1 (mt1 mh)))))
  have la := H.lt (w.heap.size + 1) 0 (.bool (a.o 0)) (mt8 (mt8 (mt1 (mt1 mh))))
  go_wp2_with fail
  clear ca0 ca1 ca2 ca3 ca4 ca5 ca6 ca7 ca8 la
  (with_reducible refine (few_any a aRa cRa aDa cDa true _ HFA.out).mono ?_)
  rintro e w2 ⟨rfl, hb⟩
  replace H := H.below hb
  clear hb
  have cb0 := H.cell (w.heap.size + 2) 0 (.bool (b.o 0)) mh
  have cb1 := H.cell (w.heap.size + 2) 1 (.bool (b.o 1)) (mt1 mh)
  have cb2 := H.cell (w.heap.size + 2) 2 (.bool (b.o 2)) (mt1 (mt1 mh))
  have cb3 := H.cell (w.heap.size + 2) 3 (.bool (b.o 3)) (mt1 (mt1 (mt1 mh)))
  have cb4 := H.cell (w.heap.size + 2) 4 (.bool (b.o 4)) (mt1 (mt1 (mt1 (mt1 mh))))
  have cb5 := H.cell (w.heap.size + 2) 5 (.bool (b.o 5)) (mt1 (mt1 (mt1 (mt1 (mt1 mh)))))
  have cb6 := H.cell (w.heap.size + 2) 6 (.bool (b.o 6)) (mt1 (mt1 (mt1 (mt1 (mt1 (mt1 mh))))))
  have cb7 := H.cell (w.heap.size + 2) 7 (.slice aRb b.nr cRb) (mt1 (mt1 (mt1 (mt1 (mt1 (mt1 (mt1 mh)))))))
  have cb8 := H.cell (w.heap.size + 2) 8 (.slice aDb b.nd cDb) (mt8 mh)
  have lb := H.lt (w.heap.size + 2) 0 (.bool (b.o 0)) mh
  go_wp2_with fail
  clear cb0 cb1 cb2 cb3 cb4 cb5 cb6 cb7 cb8 lb
  (with_reducible refine (few_any b aRb cRb aDb cDb true _ HFB.out).mono ?_)
  rintro e w3 ⟨rfl, hb⟩
  replace H := H.below hb
  clear hb
  have ca0 := H.cell (w.heap.size + 1) 0 (.bool (a.o 0)) (mt8 (mt8 (mt1 (mt1 mh))))
  have ca1 := H.cell (w.heap.size + 1) 1 (.bool (a.o 1)) (mt8 (mt8 (mt1 (mt1 (mt1 mh)))))
  have ca2 := H.cell (w.heap.size + 1) 2 (.bool (a.o 2)) (mt8 (mt8 (mt1 (mt1 (mt1 (mt1 mh))))))
  have ca3 := H.cell (w.heap.size + 1) 3 (.bool (a.o 3)) (mt8 (mt8 (mt1 (mt1 (mt1 (mt1 (mt1 mh)))))))
  have ca4 := H.cell (w.heap.size + 1) 4 (.bool (a.o 4)) (mt8 (mt8 (mt1 (mt1 (mt1 (mt1 (mt1 (mt1 mh))))))))
  have ca5 := H.cell (w.heap.size + 1) 5 (.bool (a.o 5)) (mt8 (mt8 (mt1 (mt1 (mt1 (mt1 (mt1 (mt1 (mt1 mh)))))))))
  have ca6 := H.cell (w.heap.size + 1) 6 (.bool (a.o 6)) (mt8 (mt8 (mt8 mh)))
  have ca7 := H.cell (w.heap.size + 1) 7 (.slice aRa a.nr cRa) (mt8 (mt8 (mt8 (mt1 mh))))
  have ca8 := H.cell (w.heap.size + 1) 8 (.slice aDa a.nd cDa) (mt8 (mt8 (mt8 (mt1 (mt1 mh)))))
  have la := H.lt (w.heap.size + 1) 0 (.bool (a.o 0)) (mt8 (mt8 (mt1 (mt1 mh))))
  go_wp2_with fail
  clear ca0 ca1 ca2 ca3 ca4 ca5 ca6 ca7 ca8 la
  (with_reducible refine (rcmay_any a aRa cRa aDa cDa true _ HZA.out (H.cal (mt32 (mt32 (mt8 (mt1 (mt1 (mt1 (mt1 (mt1 mh))))))))) ⟨fun _ => MA.out, fun _ => rfl⟩).mono ?_)
  rintro e w4 ⟨rfl, hb⟩
  replace H := H.below hb
  clear hb
  have cb0 := H.cell (w.heap.size + 2) 0 (.bool (b.o 0)) mh
  have cb1 := H.cell (w.heap.size + 2) 1 (.bool (b.o 1)) (mt1 mh)
  have cb2 := H.cell (w.heap.size + 2) 2 (.bool (b.o 2)) (mt1 (mt1 mh))
  have cb3 := H.cell (w.heap.size + 2) 3 (.bool (b.o 3)) (mt1 (mt1 (mt1 mh)))
  have cb4 := H.cell (w.heap.size + 2) 4 (.bool (b.o 4)) (mt1 (mt1 (mt1 (mt1 mh))))
  have cb5 := H.cell (w.heap.size + 2) 5 (.bool (b.o 5)) (mt1 (mt1 (mt1 (mt1 (mt1 mh)))))
  have cb6 := H.cell (w.heap.size + 2) 6 (.bool (b.o 6)) (mt1 (mt1 (mt1 (mt1 (mt1 (mt1 mh))))))
  have cb7 := H.cell (w.heap.size + 2) 7 (.slice aRb b.nr cRb) (mt1 (mt1 (mt1 (mt1 (mt1 (mt1 (mt1 mh)))))))
  have cb8 := H.cell (w.heap.size + 2) 8 (.slice aDb b.nd cDb) (mt8 mh)
  have lb := H.lt (w.heap.size + 2) 0 (.bool (b.o 0)) mh
  go_wp2_with fail
  clear cb0 cb1 cb2 cb3 cb4 cb5 cb6 cb7 cb8 lb
  (with_reducible refine (rcmay_any b aRb cRb aDb cDb true _ HZB.out (H.cal (mt32 (mt32 (mt8 (mt1 (mt1 (mt1 (mt1 mh)))))))) ⟨fun _ => MB.out, fun _ => rfl⟩).mono ?_)
  rintro e w5 ⟨rfl, hb⟩
  replace H := H.below hb
  clear hb
  have ca0 := H.cell (w.heap.size + 1) 0 (.bool (a.o 0)) (mt8 (mt8 (mt1 (mt1 mh))))
  have ca1 := H.cell (w.heap.size + 1) 1 (.bool (a.o 1)) (mt8 (mt8 (mt1 (mt1 (mt1 mh)))))
  have ca2 := H.cell (w.heap.size + 1) 2 (.bool (a.o 2)) (mt8 (mt8 (mt1 (mt1 (mt1 (mt1 mh))))))
  have ca3 := H.cell (w.heap.size + 1) 3 (.bool (a.o 3)) (mt8 (mt8 (mt1 (mt1 (mt1 (mt1 (mt1 mh)))))))
  have ca4 := H.cell (w.heap.size + 1) 4 (.bool (a.o 4)) (mt8 (mt8 (mt1 (mt1 (mt1 (mt1 (mt1 (mt1 mh))))))))
  have ca5 := H.cell (w.heap.size + 1) 5 (.bool (a.o 5)) (mt8 (mt8 (mt1 (mt1 (mt1 (mt1 (mt1 (mt1 (mt1 mh)))))))))
  have ca6 := H.cell (w.heap.size + 1) 6 (.bool (a.o 6)) (mt8 (mt8 (mt8 mh)))
  have ca7 := H.cell (w.heap.size + 1) 7 (.slice aRa a.nr cRa) (mt8 (mt8 (mt8 (mt1 mh))))
  have ca8 := H.cell (w.heap.size + 1) 8 (.slice aDa a.nd cDa) (mt8 (mt8 (mt8 (mt1 (mt1 mh)))))
  have la := H.lt (w.heap.size + 1) 0 (.bool (a.o 0)) (mt8 (mt8 (mt1 (mt1 mh))))
  have cb0 := H.cell (w.heap.size + 2) 0 (.bool (b.o 0)) mh
  have cb1 := H.cell (w.heap.size + 2) 1 (.bool (b.o 1)) (mt1 mh)
  have cb2 := H.cell (w.heap.size + 2) 2 (.bool (b.o 2)) (mt1 (mt1 mh))
  have cb3 := H.cell (w.heap.size + 2) 3 (.bool (b.o 3)) (mt1 (mt1 (mt1 mh)))
  have cb4 := H.cell (w.heap.size + 2) 4 (.bool (b.o 4)) (mt1 (mt1 (mt1 (mt1 mh))))
  have cb5 := H.cell (w.heap.size + 2) 5 (.bool (b.o 5)) (mt1 (mt1 (mt1 (mt1 (mt1 mh)))))
  have cb6 := H.cell (w.heap.size + 2) 6 (.bool (b.o 6)) (mt1 (mt1 (mt1 (mt1 (mt1 (mt1 mh))))))
  have cb7 := H.cell (w.heap.size + 2) 7 (.slice aRb b.nr cRb) (mt1 (mt1 (mt1 (mt1 (mt1 (mt1 (mt1 mh)))))))
  have cb8 := H.cell (w.heap.size + 2) 8 (.slice aDb b.nd cDb) (mt8 mh)
  have lb := H.lt (w.heap.size + 2) 0 (.bool (b.o 0)) mh
  go_wp2_with fail
  clear ca0 ca1 ca2 ca3 ca4 ca5 ca6 ca7 ca8 la cb0 cb1 cb2 cb3 cb4 cb5 cb6 cb7 cb8 lb
  (with_reducible refine (quy K a aRa cRa aDa cDa b aRb cRb aDb cDb _ (H.factsV (mt32 (mt32 (mt8 (mt1 (mt1 (mt1 (mt1 (mt1 (mt1 mh)))))))))) EA.out EB.out MA.out MB.out (H.cal (mt32 (mt32 (mt8 (mt1 (mt1 (mt1 (mt1 (mt1 mh))))))))) (H.cal (mt32 (mt32 (mt8 (mt1 (mt1 (mt1 (mt1 mh)))))))) MX.out).mono ?_)
  rintro e w6 ⟨aRx, cRx, aDx, cDx, rfl, hC, hb⟩
  replace H := H.below hb
  clear hb
  replace H := H.add (f := calF (a.un b) aRx cRx aDx cDx) hC
  clear hC
  have ca0 := H.cell (w.heap.size + 1) 0 (.bool (a.o 0)) (mt8 (mt8 (mt1 (mt1 (mt1 mh)))))
  have ca1 := H.cell (w.heap.size + 1) 1 (.bool (a.o 1)) (mt8 (mt8 (mt1 (mt1 (mt1 (mt1 mh))))))
  have ca2 := H.cell (w.heap.size + 1) 2 (.bool (a.o 2)) (mt8 (mt8 (mt1 (mt1 (mt1 (mt1 (mt1 mh)))))))
  have ca3 := H.cell (w.heap.size + 1) 3 (.bool (a.o 3)) (mt8 (mt8 (mt1 (mt1 (mt1 (mt1 (mt1 (mt1 mh))))))))
  have ca4 := H.cell (w.heap.size + 1) 4 (.bool (a.o 4)) (mt8 (mt8 (mt1 (mt1 (mt1 (mt1 (mt1 (mt1 (mt1 mh)))))))))
  have ca5 := H.cell (w.heap.size + 1) 5 (.bool (a.o 5)) (mt8 (mt8 (mt8 mh)))
  have ca6 := H.cell (w.heap.size + 1) 6 (.bool (a.o 6)) (mt8 (mt8 (mt8 (mt1 mh))))
  have ca7 := H.cell (w.heap.size + 1) 7 (.slice aRa a.nr cRa) (mt8 (mt8 (mt8 (mt1 (mt1 mh)))))
  have ca8 := H.cell (w.heap.size + 1) 8 (.slice aDa a.nd cDa) (mt8 (mt8 (mt8 (mt1 (mt1 (mt1 mh))))))
  have la := H.lt (w.heap.size + 1) 0 (.bool (a.o 0)) (mt8 (mt8 (mt1 (mt1 (mt1 mh)))))
  have cb0 := H.cell (w.heap.size + 2) 0 (.bool (b.o 0)) (mt1 mh)
  have cb1 := H.cell (w.heap.size + 2) 1 (.bool (b.o 1)) (mt1 (mt1 mh))
  have cb2 := H.cell (w.heap.size + 2) 2 (.bool (b.o 2)) (mt1 (mt1 (mt1 mh)))
  have cb3 := H.cell (w.heap.size + 2) 3 (.bool (b.o 3)) (mt1 (mt1 (mt1 (mt1 mh))))
  have cb4 := H.cell (w.heap.size + 2) 4 (.bool (b.o 4)) (mt1 (mt1 (mt1 (mt1 (mt1 mh)))))
  have cb5 := H.cell (w.heap.size + 2) 5 (.bool (b.o 5)) (mt1 (mt1 (mt1 (mt1 (mt1 (mt1 mh))))))
  have cb6 := H.cell (w.heap.size + 2) 6 (.bool (b.o 6)) (mt1 (mt1 (mt1 (mt1 (mt1 (mt1 (mt1 mh)))))))
  have cb7 := H.cell (w.heap.size + 2) 7 (.slice aRb b.nr cRb) (mt8 mh)
  have cb8 := H.cell (w.heap.size + 2) 8 (.slice aDb b.nd cDb) (mt8 (mt1 mh))
  have lb := H.lt (w.heap.size + 2) 0 (.bool (b.o 0)) (mt1 mh)
  go_wp2_with fail
  clear ca0 ca1 ca2 ca3 ca4 ca5 ca6 ca7 ca8 la cb0 cb1 cb2 cb3 cb4 cb5 cb6 cb7 cb8 lb
  replace H := (H.box_9 (w6.heap.size) (.bool (a.o 0 || b.o 0)) (.bool (a.o 1 || b.o 1)) (.bool (a.o 2 || b.o 2)) (.bool (a.o 3 || b.o 3)) (.bool (a.o 4 || b.o 4)) (.bool (a.o 5 || b.o 5)) (.bool (a.o 6 || b.o 6)) (.slice aRx (a.un b).nr cRx) (.slice aDx (a.un b).nd cDx) 26 rfl)
  (with_reducible refine (rquy a aRa cRa aDa cDa b aRb cRb aDb cDb _ (H.factsV (mt32 (mt32 (mt32 (mt1 mh))))) EA.out EB.out MA.out MB.out (H.cal (mt32 (mt32 (mt32 mh)))) (H.cal (mt32 (mt32 (mt8 (mt8 (mt8 (mt1 (mt1 (mt1 (mt1 (mt1 (mt1 (mt1 mh))))))))))))) MX.out).mono ?_)
  rintro e w7 ⟨aRy, cRy, aDy, cDy, rfl, hC, hb⟩
  replace H := H.below hb
  clear hb
  replace H := H.add (f := calF (a.un b) aRy cRy aDy cDy) hC
  clear hC
  have ca0 := H.cell (w.heap.size + 1) 0 (.bool (a.o 0)) (mt32 (mt1 (mt1 (mt1 (mt1 (mt1 (mt1 mh)))))))
  have ca1 := H.cell (w.heap.size + 1) 1 (.bool (a.o 1)) (mt32 (mt1 (mt1 (mt1 (mt1 (mt1 (mt1 (mt1 mh))))))))
  have ca2 := H.cell (w.heap.size + 1) 2 (.bool (a.o 2)) (mt32 (mt8 mh))
  have ca3 := H.cell (w.heap.size + 1) 3 (.bool (a.o 3)) (mt32 (mt8 (mt1 mh)))
  have ca4 := H.cell (w.heap.size + 1) 4 (.bool (a.o 4)) (mt32 (mt8 (mt1 (mt1 mh))))
  have ca5 := H.cell (w.heap.size + 1) 5 (.bool (a.o 5)) (mt32 (mt8 (mt1 (mt1 (mt1 mh)))))
  have ca6 := H.cell (w.heap.size + 1) 6 (.bool (a.o 6)) (mt32 (mt8 (mt1 (mt1 (mt1 (mt1 mh))))))
  have ca7 := H.cell (w.heap.size + 1) 7 (.slice aRa a.nr cRa) (mt32 (mt8 (mt1 (mt1 (mt1 (mt1 (mt1 mh)))))))
  have ca8 := H.cell (w.heap.size + 1) 8 (.slice aDa a.nd cDa) (mt32 (mt8 (mt1 (mt1 (mt1 (mt1 (mt1 (mt1 mh))))))))
  have la := H.lt (w.heap.size + 1) 0 (.bool (a.o 0)) (mt32 (mt1 (mt1 (mt1 (mt1 (mt1 (mt1 mh)))))))
  go_wp2_with fail
  clear ca0 ca1 ca2 ca3 ca4 ca5 ca6 ca7 ca8 la
  replace H := (H.box_9 (w7.heap.size) (.bool (a.o 0 || b.o 0)) (.bool (a.o 1 || b.o 1)) (.bool (a.o 2 || b.o 2)) (.bool (a.o 3 || b.o 3)) (.bool (a.o 4 || b.o 4)) (.bool (a.o 5 || b.o 5)) (.bool (a.o 6 || b.o 6)) (.slice aRy (a.un b).nr cRy) (.slice aDy (a.un b).nd cDy) 26 rfl)
  (with_reducible refine (K.many a aRa cRa aDa cDa n m q h _ (H.factsV (mt32 (mt32 (mt32 (mt8 (mt8 (mt1 (mt1 (mt1 (mt1 mh)))))))))) MA.out (H.cal (mt32 (mt32 (mt32 (mt8 (mt8 (mt1 (mt1 (mt1 mh))))))))) HMN.out).mono ?_)
  rintro e w8 ⟨rfl, hb⟩
  replace H := H.below hb
  clear hb
  have ca0 := H.cell (w.heap.size + 1) 0 (.bool (a.o 0)) (mt32 (mt8 (mt8 (mt8 mh))))
  have ca1 := H.cell (w.heap.size + 1) 1 (.bool (a.o 1)) (mt32 (mt8 (mt8 (mt8 (mt1 mh)))))
  have ca2 := H.cell (w.heap.size + 1) 2 (.bool (a.o 2)) (mt32 (mt8 (mt8 (mt8 (mt1 (mt1 mh))))))
  have ca3 := H.cell (w.heap.size + 1) 3 (.bool (a.o 3)) (mt32 (mt8 (mt8 (mt8 (mt1 (mt1 (mt1 mh)))))))
  have ca4 := H.cell (w.heap.size + 1) 4 (.bool (a.o 4)) (mt32 (mt8 (mt8 (mt8 (mt1 (mt1 (mt1 (mt1 mh))))))))
  have ca5 := H.cell (w.heap.size + 1) 5 (.bool (a.o 5)) (mt32 (mt8 (mt8 (mt8 (mt1 (mt1 (mt1 (mt1 (mt1 mh)))))))))
  have ca6 := H.cell (w.heap.size + 1) 6 (.bool (a.o 6)) (mt32 (mt8 (mt8 (mt8 (mt1 (mt1 (mt1 (mt1 (mt1 (mt1 mh))))))))))
  have ca7 := H.cell (w.heap.size + 1) 7 (.slice aRa a.nr cRa) (mt32 (mt8 (mt8 (mt8 (mt1 (mt1 (mt1 (mt1 (mt1 (mt1 (mt1 mh)))))))))))
  have ca8 := H.cell (w.heap.size + 1) 8 (.slice aDa a.nd cDa) (mt32 (mt32 mh))
  have la := H.lt (w.heap.size + 1) 0 (.bool (a.o 0)) (mt32 (mt8 (mt8 (mt8 mh))))
  go_wp2_with fail
  clear ca0 ca1 ca2 ca3 ca4 ca5 ca6 ca7 ca8 la
  (with_reducible refine (rcmany_any a aRa cRa aDa cDa n m q h _ HZA.out MA.out.rules (H.cal (mt32 (mt32 (mt32 (mt8 (mt8 (mt1 (mt1 (mt1 mh))))))))) HMN.out).mono ?_)
  rintro e w9 ⟨rfl, hb⟩
  replace H := H.below hb
  clear hb
  have cx20 := H.cell (w6.heap.size) 0 (.bool (a.o 0 || b.o 0)) (mt8 (mt8 (mt1 (mt1 (mt1 mh)))))
  have cx21 := H.cell (w6.heap.size) 1 (.bool (a.o 1 || b.o 1)) (mt8 (mt8 (mt1 (mt1 (mt1 (mt1 mh))))))
  have cx22 := H.cell (w6.heap.size) 2 (.bool (a.o 2 || b.o 2)) (mt8 (mt8 (mt1 (mt1 (mt1 (mt1 (mt1 mh)))))))
  have cx23 := H.cell (w6.heap.size) 3 (.bool (a.o 3 || b.o 3)) (mt8 (mt8 (mt1 (mt1 (mt1 (mt1 (mt1 (mt1 mh))))))))
  have cx24 := H.cell (w6.heap.size) 4 (.bool (a.o 4 || b.o 4)) (mt8 (mt8 (mt1 (mt1 (mt1 (mt1 (mt1 (mt1 (mt1 mh)))))))))
  have cx25 := H.cell (w6.heap.size) 5 (.bool (a.o 5 || b.o 5)) (mt8 (mt8 (mt8 mh)))
  have cx26 := H.cell (w6.heap.size) 6 (.bool (a.o 6 || b.o 6)) (mt8 (mt8 (mt8 (mt1 mh))))
  have cx27 := H.cell (w6.heap.size) 7 (.slice aRx (a.un b).nr cRx) (mt8 (mt8 (mt8 (mt1 (mt1 mh)))))
  have cx28 := H.cell (w6.heap.size) 8 (.slice aDx (a.un b).nd cDx) (mt8 (mt8 (mt8 (mt1 (mt1 (mt1 mh))))))
  have lx2 := H.lt (w6.heap.size) 0 (.bool (a.o 0 || b.o 0)) (mt8 (mt8 (mt1 (mt1 (mt1 mh)))))
  have cy20 := H.cell (w7.heap.size) 0 (.bool (a.o 0 || b.o 0)) mh
  have cy21 := H.cell (w7.heap.size) 1 (.bool (a.o 1 || b.o 1)) (mt1 mh)
  have cy22 := H.cell (w7.heap.size) 2 (.bool (a.o 2 || b.o 2)) (mt1 (mt1 mh))
  have cy23 := H.cell (w7.heap.size) 3 (.bool (a.o 3 || b.o 3)) (mt1 (mt1 (mt1 mh)))
  have cy24 := H.cell (w7.heap.size) 4 (.bool (a.o 4 || b.o 4)) (mt1 (mt1 (mt1 (mt1 mh))))
  have cy25 := H.cell (w7.heap.size) 5 (.bool (a.o 5 || b.o 5)) (mt1 (mt1 (mt1 (mt1 (mt1 mh)))))
  have cy26 := H.cell (w7.heap.size) 6 (.bool (a.o 6 || b.o 6)) (mt1 (mt1 (mt1 (mt1 (mt1 (mt1 mh))))))
  have cy27 := H.cell (w7.heap.size) 7 (.slice aRy (a.un b).nr cRy) (mt1 (mt1 (mt1 (mt1 (mt1 (mt1 (mt1 mh)))))))
  have cy28 := H.cell (w7.heap.size) 8 (.slice aDy (a.un b).nd cDy) (mt8 mh)
  have ly2 := H.lt (w7.heap.size) 0 (.bool (a.o 0 || b.o 0)) mh
  go_wp2_with fail
  clear cx20 cx21 cx22 cx23 cx24 cx25 cx26 cx27 cx28 lx2 cy20 cy21 cy22 cy23 cy24 cy25 cy26 cy27 cy28 ly2
  (with_reducible refine (qsame a b aRx cRx aDx cDx aRy cRy aDy cDy _ (un_small EA.out EB.out) (H.cal (mt32 (mt1 (mt1 (mt1 (mt1 (mt1 mh))))))) (H.cal (mt8 (mt8 (mt1 (mt1 mh)))))).mono ?_)
  rintro e w10 ⟨rfl, hb⟩
  replace H := H.below hb
  clear hb
  go_wp2_with fail
  go_ret
  exact ⟨rfl, H.old⟩

set_option maxHeartbeats 8000000 in
set_option maxRecDepth 100000 in
theorem caunites_Y2 (K : CalWay) (a : Ca) (aRa : Option Addr) (cRa : Nat) (aDa : Option Addr) (cDa : Nat) (b : Ca) (aRb : Option Addr) (cRb : Nat) (aDb : Option Addr) (cDb : Nat) (n m d q h : Int) (w : World) (hL : FactsV w) (hCa : CalAt w a aRa cRa aDa cDa) (hCb : CalAt w b aRb cRb aDb cDb) (fa : decide (a.nr ≤ 12 ∧ a.nd ≤ 60) = true) (fb : decide (b.nr ≤ 12 ∧ b.nd ≤ 60) = true) (za : a.Small) (zb : b.Small) (ea : a.Few) (eb : b.Few) (ma : a.May) (mb : b.May) (t1 : decide (m > n) = true) (hd : IntKind.i64.wrap (m - n) = d) (t2 : decide (d > 100) = true) (t3 : decide (d ≤ 4000) = false) (hm : ManyIs a n m q h) (mx : (a.un b).May) :
    Calls Tryd.prog 4 #[.agg #[.bool (a.o 0), .bool (a.o 1), .bool (a.o 2), .bool (a.o 3), .bool (a.o 4), .bool (a.o 5), .bool (a.o 6), .slice aRa a.nr cRa, .slice aDa a.nd cDa, .bool (b.o 0), .bool (b.o 1), .bool (b.o 2), .bool (b.o 3), .bool (b.o 4), .bool (b.o 5), .bool (b.o 6), .slice aRb b.nr cRb, .slice aDb b.nd cDb, .int .i64 n, .int .i64 m]] w fun e w' => e = .returned (.bool true) ∧ Below w.heap.size w w' := by
  have H := (((Held.start w).add (f := factsVF) hL).add (f := calF a aRa cRa aDa cDa) hCa).add (f := calF b aRb cRb aDb cDb) hCb
  clear hL hCa hCb
  have HFA := Lib.hid fa
  have HFB := Lib.hid fb
  have HZA := Lib.hid za
  have HZB := Lib.hid zb
  have EA := Lib.hid ea
  have EB := Lib.hid eb
  have MA := Lib.hid ma
  have MB := Lib.hid mb
  have HMN := Lib.hid hm
  have MX := Lib.hid mx
  clear fa fb za zb ea eb ma mb hm mx
  go_enter Tryd.func4, Tryd.ntmps4
  go_wp2_with fail
  replace H := (((H.box_20 (w.heap.size) (.bool (a.o 0)) (.bool (a.o 1)) (.bool (a.o 2)) (.bool (a.o 3)) (.bool (a.o 4)) (.bool (a.o 5)) (.bool (a.o 6)) (.slice aRa a.nr cRa) (.slice aDa a.nd cDa) (.bool (b.o 0)) (.bool (b.o 1)) (.bool (b.o 2)) (.bool (b.o 3)) (.bool (b.o 4)) (.bool (b.o 5)) (.bool (b.o 6)) (.slice aRb b.nr cRb) (.slice aDb b.nd cDb) (.int .i64 n) (.int .i64 m) 31 rfl).box_9 (w.heap.size + 1) (.bool (a.o 0)) (.bool (a.o 1)) (.bool (a.o 2)) (.bool (a.o 3)) (.bool (a.o 4)) (.bool (a.o 5)) (.bool (a.o 6)) (.slice aRa a.nr cRa) (.slice aDa a.nd cDa) 26 (by simp)).box_9 (w.heap.size + 2) (.bool (b.o 0)) (.bool (b.o 1)) (.bool (b.o 2)) (.bool (b.o 3)) (.bool (b.o 4)) (.bool (b.o 5)) (.bool (b.o 6)) (.slice aRb b.nr cRb) (.slice aDb b.nd cDb) 26 (by simp))
  (with_reducible refine (cashown_any K _ (H.factsV (mt32 (mt32 (mt8 (mt1 (mt1 (mt1 (mt1 (mt1 (mt1 mh))))))))))).mono ?_)
  rintro e w1 ⟨rfl, hb⟩
  replace H := H.below hb
  clear hb
  have ca0 := H.cell (w.heap.size + 1) 0 (.bool (a.o 0)) (mt8 (mt8 (mt1 (mt1 mh))))
  have ca1 := H.cell (w.heap.size + 1) 1 (.bool (a.o 1)) (mt8 (mt8 (mt1 (mt1 (mt1 mh)))))
  have ca2 := H.cell (w.heap.size + 1) 2 (.bool (a.o 2)) (mt8 (mt8 (mt1 (mt1 (mt1 (mt1 mh))))))
  have ca3 := H.cell (w.heap.size + 1) 3 (.bool (a.o 3)) (mt8 (mt8 (mt1 (mt1 (mt1 (mt1 (mt1 mh)))))))
  have ca4 := H.cell (w.heap.size + 1) 4 (.bool (a.o 4)) (mt8 (mt8 (mt1 (mt1 (mt1 (mt1 (mt1 (mt1 mh))))))))
  have ca5 := H.cell (w.heap.size + 1) 5 (.bool (a.o 5)) (mt8 (mt8 (mt1 (mt1 (mt1 (mt1 (mt1 (mt1 (mt1 mh)))))))))
  have ca6 := H.cell (w.heap.size + 1) 6 (.bool (a.o 6)) (mt8 (mt8 (mt8 mh)))
  have ca7 := H.cell (w.heap.size + 1) 7 (.slice aRa a.nr cRa) (mt8 (mt8 (mt8 (mt1 mh))))
  have ca8 := H.cell (w.heap.size + 1) 8 (.slice aDa a.nd cDa) (mt8 (mt8 (mt8 (mt1 (mt1 mh)))))
  have la := H.lt (w.heap.size + 1) 0 (.bool (a.o 0)) (mt8 (mt8 (mt1 (mt1 mh))))
  go_wp2_with fail
  clear ca0 ca1 ca2 ca3 ca4 ca5 ca6 ca7 ca8 la
  (with_reducible refine (few_any a aRa cRa aDa cDa true _ HFA.out).mono ?_)
  rintro e w2 ⟨rfl, hb⟩
  replace H := H.below hb
  clear hb
  have cb0 := H.cell (w.heap.size + 2) 0 (.bool (b.o 0)) mh
  have cb1 := H.cell (w.heap.size + 2) 1 (.bool (b.o 1)) (mt1 mh)
  have cb2 := H.cell (w.heap.size + 2) 2 (.bool (b.o 2)) (mt1 (mt1 mh))
  have cb3 := H.cell (w.heap.size + 2) 3 (.bool (b.o 3)) (mt1 (mt1 (mt1 mh)))
  have cb4 := H.cell (w.heap.size + 2) 4 (.bool (b.o 4)) (mt1 (mt1 (mt1 (mt1 mh))))
  have cb5 := H.cell (w.heap.size + 2) 5 (.bool (b.o 5)) (mt1 (mt1 (mt1 (mt1 (mt1 mh)))))
  have cb6 := H.cell (w.heap.size + 2) 6 (.bool (b.o 6)) (mt1 (mt1 (mt1 (mt1 (mt1 (mt1 mh))))))
  have cb7 := H.cell (w.heap.size + 2) 7 (.slice aRb b.nr cRb) (mt1 (mt1 (mt1 (mt1 (mt1 (mt1 (mt1 mh)))))))
  have cb8 := H.cell (w.heap.size + 2) 8 (.slice aDb b.nd cDb) (mt8 mh)
  have lb := H.lt (w.heap.size + 2) 0 (.bool (b.o 0)) mh
  go_wp2_with fail
  clear cb0 cb1 cb2 cb3 cb4 cb5 cb6 cb7 cb8 lb
  (with_reducible refine (few_any b aRb cRb aDb cDb true _ HFB.out).mono ?_)
  rintro e w3 ⟨rfl, hb⟩
  replace H := H.below hb
  clear hb
  have ca0 := H.cell (w.heap.size + 1) 0 (.bool (a.o 0)) (mt8 (mt8 (mt1 (mt1 mh))))
  have ca1 := H.cell (w.heap.size + 1) 1 (.bool (a.o 1)) (mt8 (mt8 (mt1 (mt1 (mt1 mh)))))
  have ca2 := H.cell (w.heap.size + 1) 2 (.bool (a.o 2)) (mt8 (mt8 (mt1 (mt1 (mt1 (mt1 mh))))))
  have ca3 := H.cell (w.heap.size + 1) 3 (.bool (a.o 3)) (mt8 (mt8 (mt1 (mt1 (mt1 (mt1 (mt1 mh)))))))
  have ca4 := H.cell (w.heap.size + 1) 4 (.bool (a.o 4)) (mt8 (mt8 (mt1 (mt1 (mt1 (mt1 (mt1 (mt1 mh))))))))
  have ca5 := H.cell (w.heap.size + 1) 5 (.bool (a.o 5)) (mt8 (mt8 (mt1 (mt1 (mt1 (mt1 (mt1 (mt1 (mt1 mh)))))))))
  have ca6 := H.cell (w.heap.size + 1) 6 (.bool (a.o 6)) (mt8 (mt8 (mt8 mh)))
  have ca7 := H.cell (w.heap.size + 1) 7 (.slice aRa a.nr cRa) (mt8 (mt8 (mt8 (mt1 mh))))
  have ca8 := H.cell (w.heap.size + 1) 8 (.slice aDa a.nd cDa) (mt8 (mt8 (mt8 (mt1 (mt1 mh)))))
  have la := H.lt (w.heap.size + 1) 0 (.bool (a.o 0)) (mt8 (mt8 (mt1 (mt1 mh))))
  go_wp2_with fail
  clear ca0 ca1 ca2 ca3 ca4 ca5 ca6 ca7 ca8 la
  (with_reducible refine (rcmay_any a aRa cRa aDa cDa true _ HZA.out (H.cal (mt32 (mt32 (mt8 (mt1 (mt1 (mt1 (mt1 (mt1 mh))))))))) ⟨fun _ => MA.out, fun _ => rfl⟩).mono ?_)
  rintro e w4 ⟨rfl, hb⟩
  replace H := H.below hb
  clear hb
  have cb0 := H.cell (w.heap.size + 2) 0 (.bool (b.o 0)) mh
  have cb1 := H.cell (w.heap.size + 2) 1 (.bool (b.o 1)) (mt1 mh)
  have cb2 := H.cell (w.heap.size + 2) 2 (.bool (b.o 2)) (mt1 (mt1 mh))
  have cb3 := H.cell (w.heap.size + 2) 3 (.bool (b.o 3)) (mt1 (mt1 (mt1 mh)))
  have cb4 := H.cell (w.heap.size + 2) 4 (.bool (b.o 4)) (mt1 (mt1 (mt1 (mt1 mh))))
  have cb5 := H.cell (w.heap.size + 2) 5 (.bool (b.o 5)) (mt1 (mt1 (mt1 (mt1 (mt1 mh)))))
  have cb6 := H.cell (w.heap.size + 2) 6 (.bool (b.o 6)) (mt1 (mt1 (mt1 (mt1 (mt1 (mt1 mh))))))
  have cb7 := H.cell (w.heap.size + 2) 7 (.slice aRb b.nr cRb) (mt1 (mt1 (mt1 (mt1 (mt1 (mt1 (mt1 mh)))))))
  have cb8 := H.cell (w.heap.size + 2) 8 (.slice aDb b.nd cDb) (mt8 mh)
  have lb := H.lt (w.heap.size + 2) 0 (.bool (b.o 0)) mh
  go_wp2_with fail
  clear cb0 cb1 cb2 cb3 cb4 cb5 cb6 cb7 cb8 lb
  (with_reducible refine (rcmay_any b aRb cRb aDb cDb true _ HZB.out (H.cal (mt32 (mt32 (mt8 (mt1 (mt1 (mt1 (mt1 mh)))))))) ⟨fun _ => MB.out, fun _ => rfl⟩).mono ?_)
  rintro e w5 ⟨rfl, hb⟩
  replace H := H.below hb
  clear hb
  have ca0 := H.cell (w.heap.size + 1) 0 (.bool (a.o 0)) (mt8 (mt8 (mt1 (mt1 mh))))
  have ca1 := H.cell (w.heap.size + 1) 1 (.bool (a.o 1)) (mt8 (mt8 (mt1 (mt1 (mt1 mh)))))
  have ca2 := H.cell (w.heap.size + 1) 2 (.bool (a.o 2)) (mt8 (mt8 (mt1 (mt1 (mt1 (mt1 mh))))))
  have ca3 := H.cell (w.heap.size + 1) 3 (.bool (a.o 3)) (mt8 (mt8 (mt1 (mt1 (mt1 (mt1 (mt1 mh)))))))
  have ca4 := H.cell (w.heap.size + 1) 4 (.bool (a.o 4)) (mt8 (mt8 (mt1 (mt1 (mt1 (mt1 (mt1 (mt1 mh))))))))
  have ca5 := H.cell (w.heap.size + 1) 5 (.bool (a.o 5)) (mt8 (mt8 (mt1 (mt1 (mt1 (mt1 (mt1 (mt1 (mt1 mh)))))))))
  have ca6 := H.cell (w.heap.size + 1) 6 (.bool (a.o 6)) (mt8 (mt8 (mt8 mh)))
  have ca7 := H.cell (w.heap.size + 1) 7 (.slice aRa a.nr cRa) (mt8 (mt8 (mt8 (mt1 mh))))
  have ca8 := H.cell (w.heap.size + 1) 8 (.slice aDa a.nd cDa) (mt8 (mt8 (mt8 (mt1 (mt1 mh)))))
  have la := H.lt (w.heap.size + 1) 0 (.bool (a.o 0)) (mt8 (mt8 (mt1 (mt1 mh))))
  have cb0 := H.cell (w.heap.size + 2) 0 (.bool (b.o 0)) mh
  have cb1 := H.cell (w.heap.size + 2) 1 (.bool (b.o 1)) (mt1 mh)
  have cb2 := H.cell (w.heap.size + 2) 2 (.bool (b.o 2)) (mt1 (mt1 mh))
  have cb3 := H.cell (w.heap.size + 2) 3 (.bool (b.o 3)) (mt1 (mt1 (mt1 mh)))
  have cb4 := H.cell (w.heap.size + 2) 4 (.bool (b.o 4)) (mt1 (mt1 (mt1 (mt1 mh))))
  have cb5 := H.cell (w.heap.size + 2) 5 (.bool (b.o 5)) (mt1 (mt1 (mt1 (mt1 (mt1 mh)))))
  have cb6 := H.cell (w.heap.size + 2) 6 (.bool (b.o 6)) (mt1 (mt1 (mt1 (mt1 (mt1 (mt1 mh))))))
  have cb7 := H.cell (w.heap.size + 2) 7 (.slice aRb b.nr cRb) (mt1 (mt1 (mt1 (mt1 (mt1 (mt1 (mt1 mh)))))))
  have cb8 := H.cell (w.heap.size + 2) 8 (.slice aDb b.nd cDb) (mt8 mh)
  have lb := H.lt (w.heap.size + 2) 0 (.bool (b.o 0)) mh
  go_wp2_with fail
  clear ca0 ca1 ca2 ca3 ca4 ca5 ca6 ca7 ca8 la cb0 cb1 cb2 cb3 cb4 cb5 cb6 cb7 cb8 lb
  (with_reducible refine (quy K a aRa cRa aDa cDa b aRb cRb aDb cDb _ (H.factsV (mt32 (mt32 (mt8 (mt1 (mt1 (mt1 (mt1 (mt1 (mt1 mh)))))))))) EA.out EB.out MA.out MB.out (H.cal (mt32 (mt32 (mt8 (mt1 (mt1 (mt1 (mt1 (mt1 mh))))))))) (H.cal (mt32 (mt32 (mt8 (mt1 (mt1 (mt1 (mt1 mh)))))))) MX.out).mono ?_)
  rintro e w6 ⟨aRx, cRx, aDx, cDx, rfl, hC, hb⟩
  replace H := H.below hb
  clear hb
  replace H := H.add (f := calF (a.un b) aRx cRx aDx cDx) hC
  clear hC
  have ca0 := H.cell (w.heap.size + 1) 0 (.bool (a.o 0)) (mt8 (mt8 (mt1 (mt1 (mt1 mh)))))
  have ca1 := H.cell (w.heap.size + 1) 1 (.bool (a.o 1)) (mt8 (mt8 (mt1 (mt1 (mt1 (mt1 mh))))))
  have ca2 := H.cell (w.heap.size + 1) 2 (.bool (a.o 2)) (mt8 (mt8 (mt1 (mt1 (mt1 (mt1 (mt1 mh)))))))
  have ca3 := H.cell (w.heap.size + 1) 3 (.bool (a.o 3)) (mt8 (mt8 (mt1 (mt1 (mt1 (mt1 (mt1 (mt1 mh))))))))
  have ca4 := H.cell (w.heap.size + 1) 4 (.bool (a.o 4)) (mt8 (mt8 (mt1 (mt1 (mt1 (mt1 (mt1 (mt1 (mt1 mh)))))))))
  have ca5 := H.cell (w.heap.size + 1) 5 (.bool (a.o 5)) (mt8 (mt8 (mt8 mh)))
  have ca6 := H.cell (w.heap.size + 1) 6 (.bool (a.o 6)) (mt8 (mt8 (mt8 (mt1 mh))))
  have ca7 := H.cell (w.heap.size + 1) 7 (.slice aRa a.nr cRa) (mt8 (mt8 (mt8 (mt1 (mt1 mh)))))
  have ca8 := H.cell (w.heap.size + 1) 8 (.slice aDa a.nd cDa) (mt8 (mt8 (mt8 (mt1 (mt1 (mt1 mh))))))
  have la := H.lt (w.heap.size + 1) 0 (.bool (a.o 0)) (mt8 (mt8 (mt1 (mt1 (mt1 mh)))))
  have cb0 := H.cell (w.heap.size + 2) 0 (.bool (b.o 0)) (mt1 mh)
  have cb1 := H.cell (w.heap.size + 2) 1 (.bool (b.o 1)) (mt1 (mt1 mh))
  have cb2 := H.cell (w.heap.size + 2) 2 (.bool (b.o 2)) (mt1 (mt1 (mt1 mh)))
  have cb3 := H.cell (w.heap.size + 2) 3 (.bool (b.o 3)) (mt1 (mt1 (mt1 (mt1 mh))))
  have cb4 := H.cell (w.heap.size + 2) 4 (.bool (b.o 4)) (mt1 (mt1 (mt1 (mt1 (mt1 mh)))))
  have cb5 := H.cell (w.heap.size + 2) 5 (.bool (b.o 5)) (mt1 (mt1 (mt1 (mt1 (mt1 (mt1 mh))))))
  have cb6 := H.cell (w.heap.size + 2) 6 (.bool (b.o 6)) (mt1 (mt1 (mt1 (mt1 (mt1 (mt1 (mt1 mh)))))))
  have cb7 := H.cell (w.heap.size + 2) 7 (.slice aRb b.nr cRb) (mt8 mh)
  have cb8 := H.cell (w.heap.size + 2) 8 (.slice aDb b.nd cDb) (mt8 (mt1 mh))
  have lb := H.lt (w.heap.size + 2) 0 (.bool (b.o 0)) (mt1 mh)
  go_wp2_with fail
  clear ca0 ca1 ca2 ca3 ca4 ca5 ca6 ca7 ca8 la cb0 cb1 cb2 cb3 cb4 cb5 cb6 cb7 cb8 lb
  replace H := (H.box_9 (w6.heap.size) (.bool (a.o 0 || b.o 0)) (.bool (a.o 1 || b.o 1)) (.bool (a.o 2 || b.o 2)) (.bool (a.o 3 || b.o 3)) (.bool (a.o 4 || b.o 4)) (.bool (a.o 5 || b.o 5)) (.bool (a.o 6 || b.o 6)) (.slice aRx (a.un b).nr cRx) (.slice aDx (a.un b).nd cDx) 26 rfl)
  (with_reducible refine (rquy a aRa cRa aDa cDa b aRb cRb aDb cDb _ (H.factsV (mt32 (mt32 (mt32 (mt1 mh))))) EA.out EB.out MA.out MB.out (H.cal (mt32 (mt32 (mt32 mh)))) (H.cal (mt32 (mt32 (mt8 (mt8 (mt8 (mt1 (mt1 (mt1 (mt1 (mt1 (mt1 (mt1 mh))))))))))))) MX.out).mono ?_)
  rintro e w7 ⟨aRy, cRy, aDy, cDy, rfl, hC, hb⟩
  replace H := H.below hb
  clear hb
  replace H := H.add (f := calF (a.un b) aRy cRy aDy cDy) hC
  clear hC
  have ca0 := H.cell (w.heap.size + 1) 0 (.bool (a.o 0)) (mt32 (mt1 (mt1 (mt1 (mt1 (mt1 (mt1 mh)))))))
  have ca1 := H.cell (w.heap.size + 1) 1 (.bool (a.o 1)) (mt32 (mt1 (mt1 (mt1 (mt1 (mt1 (mt1 (mt1 mh))))))))
  have ca2 := H.cell (w.heap.size + 1) 2 (.bool (a.o 2)) (mt32 (mt8 mh))
  have ca3 := H.cell (w.heap.size + 1) 3 (.bool (a.o 3)) (mt32 (mt8 (mt1 mh)))
  have ca4 := H.cell (w.heap.size + 1) 4 (.bool (a.o 4)) (mt32 (mt8 (mt1 (mt1 mh))))
  have ca5 := H.cell (w.heap.size + 1) 5 (.bool (a.o 5)) (mt32 (mt8 (mt1 (mt1 (mt1 mh)))))
  have ca6 := H.cell (w.heap.size + 1) 6 (.bool (a.o 6)) (mt32 (mt8 (mt1 (mt1 (mt1 (mt1 mh))))))
  have ca7 := H.cell (w.heap.size + 1) 7 (.slice aRa a.nr cRa) (mt32 (mt8 (mt1 (mt1 (mt1 (mt1 (mt1 mh)))))))
  have ca8 := H.cell (w.heap.size + 1) 8 (.slice aDa a.nd cDa) (mt32 (mt8 (mt1 (mt1 (mt1 (mt1 (mt1 (mt1 mh))))))))
  have la := H.lt (w.heap.size + 1) 0 (.bool (a.o 0)) (mt32 (mt1 (mt1 (mt1 (mt1 (mt1 (mt1 mh)))))))
  go_wp2_with fail
  clear ca0 ca1 ca2 ca3 ca4 ca5 ca6 ca7 ca8 la
  replace H := (H.box_9 (w7.heap.size) (.bool (a.o 0 || b.o 0)) (.bool (a.o 1 || b.o 1)) (.bool (a.o 2 || b.o 2)) (.bool (a.o 3 || b.o 3)) (.bool (a.o 4 || b.o 4)) (.bool (a.o 5 || b.o 5)) (.bool (a.o 6 || b.o 6)) (.slice aRy (a.un b).nr cRy) (.slice aDy (a.un b).nd cDy) 26 rfl)
  (with_reducible refine (K.many a aRa cRa aDa cDa n m q h _ (H.factsV (mt32 (mt32 (mt32 (mt8 (mt8 (mt1 (mt1 (mt1 (mt1 mh)))))))))) MA.out (H.cal (mt32 (mt32 (mt32 (mt8 (mt8 (mt1 (mt1 (mt1 mh))))))))) HMN.out).mono ?_)
  rintro e w8 ⟨rfl, hb⟩
  replace H := H.below hb
  clear hb
  have ca0 := H.cell (w.heap.size + 1) 0 (.bool (a.o 0)) (mt32 (mt8 (mt8 (mt8 mh))))
  have ca1 := H.cell (w.heap.size + 1) 1 (.bool (a.o 1)) (mt32 (mt8 (mt8 (mt8 (mt1 mh)))))
  have ca2 := H.cell (w.heap.size + 1) 2 (.bool (a.o 2)) (mt32 (mt8 (mt8 (mt8 (mt1 (mt1 mh))))))
  have ca3 := H.cell (w.heap.size + 1) 3 (.bool (a.o 3)) (mt32 (mt8 (mt8 (mt8 (mt1 (mt1 (mt1 mh)))))))
  have ca4 := H.cell (w.heap.size + 1) 4 (.bool (a.o 4)) (mt32 (mt8 (mt8 (mt8 (mt1 (mt1 (mt1 (mt1 mh))))))))
  have ca5 := H.cell (w.heap.size + 1) 5 (.bool (a.o 5)) (mt32 (mt8 (mt8 (mt8 (mt1 (mt1 (mt1 (mt1 (mt1 mh)))))))))
  have ca6 := H.cell (w.heap.size + 1) 6 (.bool (a.o 6)) (mt32 (mt8 (mt8 (mt8 (mt1 (mt1 (mt1 (mt1 (mt1 (mt1 mh))))))))))
  have ca7 := H.cell (w.heap.size + 1) 7 (.slice aRa a.nr cRa) (mt32 (mt8 (mt8 (mt8 (mt1 (mt1 (mt1 (mt1 (mt1 (mt1 (mt1 mh)))))))))))
  have ca8 := H.cell (w.heap.size + 1) 8 (.slice aDa a.nd cDa) (mt32 (mt32 mh))
  have la := H.lt (w.heap.size + 1) 0 (.bool (a.o 0)) (mt32 (mt8 (mt8 (mt8 mh))))
  go_wp2_with fail
  clear ca0 ca1 ca2 ca3 ca4 ca5 ca6 ca7 ca8 la
  (with_reducible refine (rcmany_any a aRa cRa aDa cDa n m q h _ HZA.out MA.out.rules (H.cal (mt32 (mt32 (mt32 (mt8 (mt8 (mt1 (mt1 (mt1 mh))))))))) HMN.out).mono ?_)
  rintro e w9 ⟨rfl, hb⟩
  replace H := H.below hb
  clear hb
  have cx20 := H.cell (w6.heap.size) 0 (.bool (a.o 0 || b.o 0)) (mt8 (mt8 (mt1 (mt1 (mt1 mh)))))
  have cx21 := H.cell (w6.heap.size) 1 (.bool (a.o 1 || b.o 1)) (mt8 (mt8 (mt1 (mt1 (mt1 (mt1 mh))))))
  have cx22 := H.cell (w6.heap.size) 2 (.bool (a.o 2 || b.o 2)) (mt8 (mt8 (mt1 (mt1 (mt1 (mt1 (mt1 mh)))))))
  have cx23 := H.cell (w6.heap.size) 3 (.bool (a.o 3 || b.o 3)) (mt8 (mt8 (mt1 (mt1 (mt1 (mt1 (mt1 (mt1 mh))))))))
  have cx24 := H.cell (w6.heap.size) 4 (.bool (a.o 4 || b.o 4)) (mt8 (mt8 (mt1 (mt1 (mt1 (mt1 (mt1 (mt1 (mt1 mh)))))))))
  have cx25 := H.cell (w6.heap.size) 5 (.bool (a.o 5 || b.o 5)) (mt8 (mt8 (mt8 mh)))
  have cx26 := H.cell (w6.heap.size) 6 (.bool (a.o 6 || b.o 6)) (mt8 (mt8 (mt8 (mt1 mh))))
  have cx27 := H.cell (w6.heap.size) 7 (.slice aRx (a.un b).nr cRx) (mt8 (mt8 (mt8 (mt1 (mt1 mh)))))
  have cx28 := H.cell (w6.heap.size) 8 (.slice aDx (a.un b).nd cDx) (mt8 (mt8 (mt8 (mt1 (mt1 (mt1 mh))))))
  have lx2 := H.lt (w6.heap.size) 0 (.bool (a.o 0 || b.o 0)) (mt8 (mt8 (mt1 (mt1 (mt1 mh)))))
  have cy20 := H.cell (w7.heap.size) 0 (.bool (a.o 0 || b.o 0)) mh
  have cy21 := H.cell (w7.heap.size) 1 (.bool (a.o 1 || b.o 1)) (mt1 mh)
  have cy22 := H.cell (w7.heap.size) 2 (.bool (a.o 2 || b.o 2)) (mt1 (mt1 mh))
  have cy23 := H.cell (w7.heap.size) 3 (.bool (a.o 3 || b.o 3)) (mt1 (mt1 (mt1 mh)))
  have cy24 := H.cell (w7.heap.size) 4 (.bool (a.o 4 || b.o 4)) (mt1 (mt1 (mt1 (mt1 mh))))
  have cy25 := H.cell (w7.heap.size) 5 (.bool (a.o 5 || b.o 5)) (mt1 (mt1 (mt1 (mt1 (mt1 mh)))))
  have cy26 := H.cell (w7.heap.size) 6 (.bool (a.o 6 || b.o 6)) (mt1 (mt1 (mt1 (mt1 (mt1 (mt1 mh))))))
  have cy27 := H.cell (w7.heap.size) 7 (.slice aRy (a.un b).nr cRy) (mt1 (mt1 (mt1 (mt1 (mt1 (mt1 (mt1 mh)))))))
  have cy28 := H.cell (w7.heap.size) 8 (.slice aDy (a.un b).nd cDy) (mt8 mh)
  have ly2 := H.lt (w7.heap.size) 0 (.bool (a.o 0 || b.o 0)) mh
  go_wp2_with fail
  clear cx20 cx21 cx22 cx23 cx24 cx25 cx26 cx27 cx28 lx2 cy20 cy21 cy22 cy23 cy24 cy25 cy26 cy27 cy28 ly2
  (with_reducible refine (qsame a b aRx cRx aDx cDx aRy cRy aDy cDy _ (un_small EA.out EB.out) (H.cal (mt32 (mt1 (mt1 (mt1 (mt1 (mt1 mh))))))) (H.cal (mt8 (mt8 (mt1 (mt1 mh)))))).mono ?_)
  rintro e w10 ⟨rfl, hb⟩
  replace H := H.below hb
  clear hb
  go_wp2_with fail
  go_ret
  exact ⟨rfl, H.old⟩
end Go.Proofs.YtkadodkdbopgnaaDoor
