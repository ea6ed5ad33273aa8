/- CalTells: the walk. -/
import Derived.Test.YtkadodkdbopgnaaDoorCaShown
namespace Go.Proofs.YtkadodkdbopgnaaDoor
open Go.RowKit
set_option linter.unusedVariables false
set_option linter.unusedSimpArgs false


set_option maxHeartbeats 8000000 in
set_option maxRecDepth 100000 in
theorem catells_many (K : CalWay) (c : Ca) (aR : Option Addr) (cR : Nat) (aD : Option Addr) (cD : Nat) (n : Int) (w : World) (hL : FactsV w) (hCc : CalAt w c aR cR aD cD) (hf : decide (c.nr ≤ 12 ∧ c.nd ≤ 60) = false) :
    Calls Tryd.prog 3 #[.agg #[.bool (c.o 0), .bool (c.o 1), .bool (c.o 2), .bool (c.o 3), .bool (c.o 4), .bool (c.o 5), .bool (c.o 6), .slice aR c.nr cR, .slice aD c.nd cD], .int .i64 n] w fun e w' => e = .returned (.bool true) ∧ Below w.heap.size w w' := by
  have H := ((Held.start w).add (f := factsVF) hL).add (f := calF c aR cR aD cD) hCc
  clear hL hCc
  have HF := Lib.hid hf
  clear hf
  go_enter Tryd.func3, Tryd.ntmps3
  go_wp2_with fail
  replace H := (H.box_9 (w.heap.size) (.bool (c.o 0)) (.bool (c.o 1)) (.bool (c.o 2)) (.bool (c.o 3)) (.bool (c.o 4)) (.bool (c.o 5)) (.bool (c.o 6)) (.slice aR c.nr cR) (.slice aD c.nd cD) 26 rfl)
  (with_reducible refine (cashown_any K _ (H.factsV (List.Mem.tail _ (List.Mem.tail _ (List.Mem.tail _ (List.Mem.tail _ (List.Mem.tail _ (List.Mem.tail _ (List.Mem.tail _ (List.Mem.tail _ (List.Mem.tail _ (List.Mem.tail _ (List.Mem.tail _ (List.Mem.tail _ (List.Mem.tail _ (List.Mem.tail _ (List.Mem.tail _ (List.Mem.tail _ (List.Mem.tail _ (List.Mem.tail _ (List.Mem.tail _ (List.Mem.head _)))))))))))))))))))))).mono ?_)
  rintro e w1 ⟨rfl, hb⟩
  replace H := H.below hb
  clear hb
  have cc0 := H.cell (w.heap.size) 0 (.bool (c.o 0)) (List.Mem.head _)
  have cc1 := H.cell (w.heap.size) 1 (.bool (c.o 1)) (List.Mem.tail _ (List.Mem.head _))
  have cc2 := H.cell (w.heap.size) 2 (.bool (c.o 2)) (List.Mem.tail _ (List.Mem.tail _ (List.Mem.head _)))
  have cc3 := H.cell (w.heap.size) 3 (.bool (c.o 3)) (List.Mem.tail _ (List.Mem.tail _ (List.Mem.tail _ (List.Mem.head _))))
  have cc4 := H.cell (w.heap.size) 4 (.bool (c.o 4)) (List.Mem.tail _ (List.Mem.tail _ (List.Mem.tail _ (List.Mem.tail _ (List.Mem.head _)))))
  have cc5 := H.cell (w.heap.size) 5 (.bool (c.o 5)) (List.Mem.tail _ (List.Mem.tail _ (List.Mem.tail _ (List.Mem.tail _ (List.Mem.tail _ (List.Mem.head _))))))
  have cc6 := H.cell (w.heap.size) 6 (.bool (c.o 6)) (List.Mem.tail _ (List.Mem.tail _ (List.Mem.tail _ (List.Mem.tail _ (List.Mem.tail _ (List.Mem.tail _ (List.Mem.head _)))))))
  have cc7 := H.cell (w.heap.size) 7 (.slice aR c.nr cR) (List.Mem.tail _ (List.Mem.tail _ (List.Mem.tail _ (List.Mem.tail _ (List.Mem.tail _ (List.Mem.tail _ (List.Mem.tail _ (List.Mem.head _))))))))
  have cc8 := H.cell (w.heap.size) 8 (.slice aD c.nd cD) (List.Mem.tail _ (List.Mem.tail _ (List.Mem.tail _ (List.Mem.tail _ (List.Mem.tail _ (List.Mem.tail _ (List.Mem.tail _ (List.Mem.tail _ (List.Mem.head _)))))))))
  have lc := H.lt (w.heap.size) 0 (.bool (c.o 0)) (List.Mem.head _)
  go_wp2_with fail
  clear cc0 cc1 cc2 cc3 cc4 cc5 cc6 cc7 cc8 lc
  (with_reducible refine (few_any c aR cR aD cD false _ HF.out).mono ?_)
  rintro e w2 ⟨rfl, hb⟩
  replace H := H.below hb
  clear hb
  go_wp2_with fail
  go_ret
  exact ⟨rfl, H.old⟩

set_option maxHeartbeats 8000000 in
set_option maxRecDepth 100000 in
theorem catells_f (K : CalWay) (c : Ca) (aR : Option Addr) (cR : Nat) (aD : Option Addr) (cD : Nat) (n : Int) (w : World) (hL : FactsV w) (hCc : CalAt w c aR cR aD cD) (hf : decide (c.nr ≤ 12 ∧ c.nd ≤ 60) = true) (hS : c.Small) (hm : ¬ c.May) :
    Calls Tryd.prog 3 #[.agg #[.bool (c.o 0), .bool (c.o 1), .bool (c.o 2), .bool (c.o 3), .bool (c.o 4), .bool (c.o 5), .bool (c.o 6), .slice aR c.nr cR, .slice aD c.nd cD], .int .i64 n] w fun e w' => e = .returned (.bool true) ∧ Below w.heap.size w w' := by
  have H := ((Held.start w).add (f := factsVF) hL).add (f := calF c aR cR aD cD) hCc
  clear hL hCc
  have HF := Lib.hid hf
  have HZ := Lib.hid hS
  have NM := Lib.hid hm
  clear hf hS hm
  go_enter Tryd.func3, Tryd.ntmps3
  go_wp2_with fail
  replace H := (H.box_9 (w.heap.size) (.bool (c.o 0)) (.bool (c.o 1)) (.bool (c.o 2)) (.bool (c.o 3)) (.bool (c.o 4)) (.bool (c.o 5)) (.bool (c.o 6)) (.slice aR c.nr cR) (.slice aD c.nd cD) 26 rfl)
  (with_reducible refine (cashown_any K _ (H.factsV (List.Mem.tail _ (List.Mem.tail _ (List.Mem.tail _ (List.Mem.tail _ (List.Mem.tail _ (List.Mem.tail _ (List.Mem.tail _ (List.Mem.tail _ (List.Mem.tail _ (List.Mem.tail _ (List.Mem.tail _ (List.Mem.tail _ (List.Mem.tail _ (List.Mem.tail _ (List.Mem.tail _ (List.Mem.tail _ (List.Mem.tail _ (List.Mem.tail _ (List.Mem.tail _ (List.Mem.head _)))))))))))))))))))))).mono ?_)
  rintro e w1 ⟨rfl, hb⟩
  replace H := H.below hb
  clear hb
  have cc0 := H.cell (w.heap.size) 0 (.bool (c.o 0)) (List.Mem.head _)
  have cc1 := H.cell (w.heap.size) 1 (.bool (c.o 1)) (List.Mem.tail _ (List.Mem.head _))
  have cc2 := H.cell (w.heap.size) 2 (.bool (c.o 2)) (List.Mem.tail _ (List.Mem.tail _ (List.Mem.head _)))
  have cc3 := H.cell (w.heap.size) 3 (.bool (c.o 3)) (List.Mem.tail _ (List.Mem.tail _ (List.Mem.tail _ (List.Mem.head _))))
  have cc4 := H.cell (w.heap.size) 4 (.bool (c.o 4)) (List.Mem.tail _ (List.Mem.tail _ (List.Mem.tail _ (List.Mem.tail _ (List.Mem.head _)))))
  have cc5 := H.cell (w.heap.size) 5 (.bool (c.o 5)) (List.Mem.tail _ (List.Mem.tail _ (List.Mem.tail _ (List.Mem.tail _ (List.Mem.tail _ (List.Mem.head _))))))
  have cc6 := H.cell (w.heap.size) 6 (.bool (c.o 6)) (List.Mem.tail _ (List.Mem.tail _ (List.Mem.tail _ (List.Mem.tail _ (List.Mem.tail _ (List.Mem.tail _ (List.Mem.head _)))))))
  have cc7 := H.cell (w.heap.size) 7 (.slice aR c.nr cR) (List.Mem.tail _ (List.Mem.tail _ (List.Mem.tail _ (List.Mem.tail _ (List.Mem.tail _ (List.Mem.tail _ (List.Mem.tail _ (List.Mem.head _))))))))
  have cc8 := H.cell (w.heap.size) 8 (.slice aD c.nd cD) (List.Mem.tail _ (List.Mem.tail _ (List.Mem.tail _ (List.Mem.tail _ (List.Mem.tail _ (List.Mem.tail _ (List.Mem.tail _ (List.Mem.tail _ (List.Mem.head _)))))))))
  have lc := H.lt (w.heap.size) 0 (.bool (c.o 0)) (List.Mem.head _)
  go_wp2_with fail
  clear cc0 cc1 cc2 cc3 cc4 cc5 cc6 cc7 cc8 lc
  (with_reducible refine (few_any c aR cR aD cD true _ HF.out).mono ?_)
  rintro e w2 ⟨rfl, hb⟩
  replace H := H.below hb
  clear hb
  have cc0 := H.cell (w.heap.size) 0 (.bool (c.o 0)) (List.Mem.head _)
  have cc1 := H.cell (w.heap.size) 1 (.bool (c.o 1)) (List.Mem.tail _ (List.Mem.head _))
  have cc2 := H.cell (w.heap.size) 2 (.bool (c.o 2)) (List.Mem.tail _ (List.Mem.tail _ (List.Mem.head _)))
  have cc3 := H.cell (w.heap.size) 3 (.bool (c.o 3)) (List.Mem.tail _ (List.Mem.tail _ (List.Mem.tail _ (List.Mem.head _))))
  have cc4 := H.cell (w.heap.size) 4 (.bool (c.o 4)) (List.Mem.tail _ (List.Mem.tail _ (List.Mem.tail _ (List.Mem.tail _ (List.Mem.head _)))))
  have cc5 := H.cell (w.heap.size) 5 (.bool (c.o 5)) (List.Mem.tail _ (List.Mem.tail _ (List.Mem.tail _ (List.Mem.tail _ (List.Mem.tail _ (List.Mem.head _))))))
  have cc6 := H.cell (w.heap.size) 6 (.bool (c.o 6)) (List.Mem.tail _ (List.Mem.tail _ (List.Mem.tail _ (List.Mem.tail _ (List.Mem.tail _ (List.Mem.tail _ (List.Mem.head _)))))))
  have cc7 := H.cell (w.heap.size) 7 (.slice aR c.nr cR) (List.Mem.tail _ (List.Mem.tail _ (List.Mem.tail _ (List.Mem.tail _ (List.Mem.tail _ (List.Mem.tail _ (List.Mem.tail _ (List.Mem.head _))))))))
  have cc8 := H.cell (w.heap.size) 8 (.slice aD c.nd cD) (List.Mem.tail _ (List.Mem.tail _ (List.Mem.tail _ (List.Mem.tail _ (List.Mem.tail _ (List.Mem.tail _ (List.Mem.tail _ (List.Mem.tail _ (List.Mem.head _)))))))))
  have lc := H.lt (w.heap.size) 0 (.bool (c.o 0)) (List.Mem.head _)
  go_wp2_with fail
  clear cc0 cc1 cc2 cc3 cc4 cc5 cc6 cc7 cc8 lc
  (with_reducible refine (rcmay_any c aR cR aD cD false _ HZ.out (H.cal (List.Mem.tail _ (List.Mem.tail _ (List.Mem.tail _ (List.Mem.tail _ (List.Mem.tail _ (List.Mem.tail _ (List.Mem.tail _ (List.Mem.tail _ (List.Mem.tail _ (List.Mem.tail _ (List.Mem.tail _ (List.Mem.tail _ (List.Mem.tail _ (List.Mem.tail _ (List.Mem.tail _ (List.Mem.tail _ (List.Mem.tail _ (List.Mem.tail _ (List.Mem.head _)))))))))))))))))))) ⟨fun g => absurd g (by decide), fun g => absurd g NM.out⟩).mono ?_)
  rintro e w3 ⟨rfl, hb⟩
  replace H := H.below hb
  clear hb
  have cc0 := H.cell (w.heap.size) 0 (.bool (c.o 0)) (List.Mem.head _)
  have cc1 := H.cell (w.heap.size) 1 (.bool (c.o 1)) (List.Mem.tail _ (List.Mem.head _))
  have cc2 := H.cell (w.heap.size) 2 (.bool (c.o 2)) (List.Mem.tail _ (List.Mem.tail _ (List.Mem.head _)))
  have cc3 := H.cell (w.heap.size) 3 (.bool (c.o 3)) (List.Mem.tail _ (List.Mem.tail _ (List.Mem.tail _ (List.Mem.head _))))
  have cc4 := H.cell (w.heap.size) 4 (.bool (c.o 4)) (List.Mem.tail _ (List.Mem.tail _ (List.Mem.tail _ (List.Mem.tail _ (List.Mem.head _)))))
  have cc5 := H.cell (w.heap.size) 5 (.bool (c.o 5)) (List.Mem.tail _ (List.Mem.tail _ (List.Mem.tail _ (List.Mem.tail _ (List.Mem.tail _ (List.Mem.head _))))))
  have cc6 := H.cell (w.heap.size) 6 (.bool (c.o 6)) (List.Mem.tail _ (List.Mem.tail _ (List.Mem.tail _ (List.Mem.tail _ (List.Mem.tail _ (List.Mem.tail _ (List.Mem.head _)))))))
  have cc7 := H.cell (w.heap.size) 7 (.slice aR c.nr cR) (List.Mem.tail _ (List.Mem.tail _ (List.Mem.tail _ (List.Mem.tail _ (List.Mem.tail _ (List.Mem.tail _ (List.Mem.tail _ (List.Mem.head _))))))))
  have cc8 := H.cell (w.heap.size) 8 (.slice aD c.nd cD) (List.Mem.tail _ (List.Mem.tail _ (List.Mem.tail _ (List.Mem.tail _ (List.Mem.tail _ (List.Mem.tail _ (List.Mem.tail _ (List.Mem.tail _ (List.Mem.head _)))))))))
  have lc := H.lt (w.heap.size) 0 (.bool (c.o 0)) (List.Mem.head _)
  go_wp2_with fail
  clear cc0 cc1 cc2 cc3 cc4 cc5 cc6 cc7 cc8 lc
  (with_reducible refine (K.may c aR cR aD cD false _ (H.factsV (List.Mem.tail _ (List.Mem.tail _ (List.Mem.tail _ (List.Mem.tail _ (List.Mem.tail _ (List.Mem.tail _ (List.Mem.tail _ (List.Mem.tail _ (List.Mem.tail _ (List.Mem.tail _ (List.Mem.tail _ (List.Mem.tail _ (List.Mem.tail _ (List.Mem.tail _ (List.Mem.tail _ (List.Mem.tail _ (List.Mem.tail _ (List.Mem.tail _ (List.Mem.tail _ (List.Mem.head _))))))))))))))))))))) HZ.out (H.cal (List.Mem.tail _ (List.Mem.tail _ (List.Mem.tail _ (List.Mem.tail _ (List.Mem.tail _ (List.Mem.tail _ (List.Mem.tail _ (List.Mem.tail _ (List.Mem.tail _ (List.Mem.tail _ (List.Mem.tail _ (List.Mem.tail _ (List.Mem.tail _ (List.Mem.tail _ (List.Mem.tail _ (List.Mem.tail _ (List.Mem.tail _ (List.Mem.tail _ (List.Mem.head _)))))))))))))))))))) ⟨fun g => absurd g (by decide), fun g => absurd g NM.out⟩).mono ?_)
  rintro e w4 ⟨rfl, hb⟩
  replace H := H.below hb
  clear hb
  go_wp2_with fail
  go_quiet (fail)
  go_wp2
  go_ret
  exact ⟨rfl, belowDrewN H.old _⟩

set_option maxHeartbeats 8000000 in
set_option maxRecDepth 100000 in
theorem catells_t (K : CalWay) (c : Ca) (aR : Option Addr) (cR : Nat) (aD : Option Addr) (cD : Nat) (n : Int) (w : World) (hL : FactsV w) (hCc : CalAt w c aR cR aD cD) (hf : decide (c.nr ≤ 12 ∧ c.nd ≤ 60) = true) (hS : c.Small)  (hM : c.May) (b : Bool) (hb : b = true ↔ c.Is n) :
    Calls Tryd.prog 3 #[.agg #[.bool (c.o 0), .bool (c.o 1), .bool (c.o 2), .bool (c.o 3), .bool (c.o 4), .bool (c.o 5), .bool (c.o 6), .slice aR c.nr cR, .slice aD c.nd cD], .int .i64 n] w fun e w' => e = .returned (.bool true) ∧ Below w.heap.size w w' := by
  have H := ((Held.start w).add (f := factsVF) hL).add (f := calF c aR cR aD cD) hCc
  clear hL hCc
  have HF := Lib.hid hf
  have HZ := Lib.hid hS
  have MM := Lib.hid hM
  have HB := Lib.hid hb
  clear hf hS hM hb
  go_enter Tryd.func3, Tryd.ntmps3
  go_wp2_with fail
  replace H := (H.box_9 (w.heap.size) (.bool (c.o 0)) (.bool (c.o 1)) (.bool (c.o 2)) (.bool (c.o 3)) (.bool (c.o 4)) (.bool (c.o 5)) (.bool (c.o 6)) (.slice aR c.nr cR) (.slice aD c.nd cD) 26 rfl)
  (with_reducible refine (cashown_any K _ (H.factsV (List.Mem.tail _ (List.Mem.tail _ (List.Mem.tail _ (List.Mem.tail _ (List.Mem.tail _ (List.Mem.tail _ (List.Mem.tail _ (List.Mem.tail _ (List.Mem.tail _ (List.Mem.tail _ (List.Mem.tail _ (List.Mem.tail _ (List.Mem.tail _ (List.Mem.tail _ (List.Mem.tail _ (List.Mem.tail _ (List.Mem.tail _ (List.Mem.tail _ (List.Mem.tail _ (List.Mem.head _)))))))))))))))))))))).mono ?_)
  rintro e w1 ⟨rfl, hb⟩
  replace H := H.below hb
  clear hb
  have cc0 := H.cell (w.heap.size) 0 (.bool (c.o 0)) (List.Mem.head _)
  have cc1 := H.cell (w.heap.size) 1 (.bool (c.o 1)) (List.Mem.tail _ (List.Mem.head _))
  have cc2 := H.cell (w.heap.size) 2 (.bool (c.o 2)) (List.Mem.tail _ (List.Mem.tail _ (List.Mem.head _)))
  have cc3 := H.cell (w.heap.size) 3 (.bool (c.o 3)) (List.Mem.tail _ (List.Mem.tail _ (List.Mem.tail _ (List.Mem.head _))))
  have cc4 := H.cell (w.heap.size) 4 (.bool (c.o 4)) (List.Mem.tail _ (List.Mem.tail _ (List.Mem.tail _ (List.Mem.tail _ (List.Mem.head _)))))
  have cc5 := H.cell (w.heap.size) 5 (.bool (c.o 5)) (List.Mem.tail _ (List.Mem.tail _ (List.Mem.tail _ (List.Mem.tail _ (List.Mem.tail _ (List.Mem.head _))))))
  have cc6 := H.cell (w.heap.size) 6 (.bool (c.o 6)) (List.Mem.tail _ (List.Mem.tail _ (List.Mem.tail _ (List.Mem.tail _ (List.Mem.tail _ (List.Mem.tail _ (List.Mem.head _)))))))
  have cc7 := H.cell (w.heap.size) 7 (.slice aR c.nr cR) (List.Mem.tail _ (List.Mem.tail _ (List.Mem.tail _ (List.Mem.tail _ (List.Mem.tail _ (List.Mem.tail _ (List.Mem.tail _ (List.Mem.head _))))))))
  have cc8 := H.cell (w.heap.size) 8 (.slice aD c.nd cD) (List.Mem.tail _ (List.Mem.tail _ (List.Mem.tail _ (List.Mem.tail _ (List.Mem.tail _ (List.Mem.tail _ (List.Mem.tail _ (List.Mem.tail _ (List.Mem.head _)))))))))
  have lc := H.lt (w.heap.size) 0 (.bool (c.o 0)) (List.Mem.head _)
  go_wp2_with fail
  clear cc0 cc1 cc2 cc3 cc4 cc5 cc6 cc7 cc8 lc
  (with_reducible refine (few_any c aR cR aD cD true _ HF.out).mono ?_)
  rintro e w2 ⟨rfl, hb⟩
  replace H := H.below hb
  clear hb
  have cc0 := H.cell (w.heap.size) 0 (.bool (c.o 0)) (List.Mem.head _)
  have cc1 := H.cell (w.heap.size) 1 (.bool (c.o 1)) (List.Mem.tail _ (List.Mem.head _))
  have cc2 := H.cell (w.heap.size) 2 (.bool (c.o 2)) (List.Mem.tail _ (List.Mem.tail _ (List.Mem.head _)))
  have cc3 := H.cell (w.heap.size) 3 (.bool (c.o 3)) (List.Mem.tail _ (List.Mem.tail _ (List.Mem.tail _ (List.Mem.head _))))
  have cc4 := H.cell (w.heap.size) 4 (.bool (c.o 4)) (List.Mem.tail _ (List.Mem.tail _ (List.Mem.tail _ (List.Mem.tail _ (List.Mem.head _)))))
  have cc5 := H.cell (w.heap.size) 5 (.bool (c.o 5)) (List.Mem.tail _ (List.Mem.tail _ (List.Mem.tail _ (List.Mem.tail _ (List.Mem.tail _ (List.Mem.head _))))))
  have cc6 := H.cell (w.heap.size) 6 (.bool (c.o 6)) (List.Mem.tail _ (List.Mem.tail _ (List.Mem.tail _ (List.Mem.tail _ (List.Mem.tail _ (List.Mem.tail _ (List.Mem.head _)))))))
  have cc7 := H.cell (w.heap.size) 7 (.slice aR c.nr cR) (List.Mem.tail _ (List.Mem.tail _ (List.Mem.tail _ (List.Mem.tail _ (List.Mem.tail _ (List.Mem.tail _ (List.Mem.tail _ (List.Mem.head _))))))))
  have cc8 := H.cell (w.heap.size) 8 (.slice aD c.nd cD) (List.Mem.tail _ (List.Mem.tail _ (List.Mem.tail _ (List.Mem.tail _ (List.Mem.tail _ (List.Mem.tail _ (List.Mem.tail _ (List.Mem.tail _ (List.Mem.head _)))))))))
  have lc := H.lt (w.heap.size) 0 (.bool (c.o 0)) (List.Mem.head _)
  go_wp2_with fail
  clear cc0 cc1 cc2 cc3 cc4 cc5 cc6 cc7 cc8 lc
  (with_reducible refine (rcmay_any c aR cR aD cD true _ HZ.out (H.cal (List.Mem.tail _ (List.Mem.tail _ (List.Mem.tail _ (List.Mem.tail _ (List.Mem.tail _ (List.Mem.tail _ (List.Mem.tail _ (List.Mem.tail _ (List.Mem.tail _ (List.Mem.tail _ (List.Mem.tail _ (List.Mem.tail _ (List.Mem.tail _ (List.Mem.tail _ (List.Mem.tail _ (List.Mem.tail _ (List.Mem.tail _ (List.Mem.tail _ (List.Mem.head _)))))))))))))))))))) ⟨fun _ => MM.out, fun _ => rfl⟩).mono ?_)
  rintro e w3 ⟨rfl, hb⟩
  replace H := H.below hb
  clear hb
  have cc0 := H.cell (w.heap.size) 0 (.bool (c.o 0)) (List.Mem.head _)
  have cc1 := H.cell (w.heap.size) 1 (.bool (c.o 1)) (List.Mem.tail _ (List.Mem.head _))
  have cc2 := H.cell (w.heap.size) 2 (.bool (c.o 2)) (List.Mem.tail _ (List.Mem.tail _ (List.Mem.head _)))
  have cc3 := H.cell (w.heap.size) 3 (.bool (c.o 3)) (List.Mem.tail _ (List.Mem.tail _ (List.Mem.tail _ (List.Mem.head _))))
  have cc4 := H.cell (w.heap.size) 4 (.bool (c.o 4)) (List.Mem.tail _ (List.Mem.tail _ (List.Mem.tail _ (List.Mem.tail _ (List.Mem.head _)))))
  have cc5 := H.cell (w.heap.size) 5 (.bool (c.o 5)) (List.Mem.tail _ (List.Mem.tail _ (List.Mem.tail _ (List.Mem.tail _ (List.Mem.tail _ (List.Mem.head _))))))
  have cc6 := H.cell (w.heap.size) 6 (.bool (c.o 6)) (List.Mem.tail _ (List.Mem.tail _ (List.Mem.tail _ (List.Mem.tail _ (List.Mem.tail _ (List.Mem.tail _ (List.Mem.head _)))))))
  have cc7 := H.cell (w.heap.size) 7 (.slice aR c.nr cR) (List.Mem.tail _ (List.Mem.tail _ (List.Mem.tail _ (List.Mem.tail _ (List.Mem.tail _ (List.Mem.tail _ (List.Mem.tail _ (List.Mem.head _))))))))
  have cc8 := H.cell (w.heap.size) 8 (.slice aD c.nd cD) (List.Mem.tail _ (List.Mem.tail _ (List.Mem.tail _ (List.Mem.tail _ (List.Mem.tail _ (List.Mem.tail _ (List.Mem.tail _ (List.Mem.tail _ (List.Mem.head _)))))))))
  have lc := H.lt (w.heap.size) 0 (.bool (c.o 0)) (List.Mem.head _)
  go_wp2_with fail
  clear cc0 cc1 cc2 cc3 cc4 cc5 cc6 cc7 cc8 lc
  (with_reducible refine (K.may c aR cR aD cD true _ (H.factsV (List.Mem.tail _ (List.Mem.tail _ (List.Mem.tail _ (List.Mem.tail _ (List.Mem.tail _ (List.Mem.tail _ (List.Mem.tail _ (List.Mem.tail _ (List.Mem.tail _ (List.Mem.tail _ (List.Mem.tail _ (List.Mem.tail _ (List.Mem.tail _ (List.Mem.tail _ (List.Mem.tail _ (List.Mem.tail _ (List.Mem.tail _ (List.Mem.tail _ (List.Mem.tail _ (List.Mem.head _))))))))))))))))))))) HZ.out (H.cal (List.Mem.tail _ (List.Mem.tail _ (List.Mem.tail _ (List.Mem.tail _ (List.Mem.tail _ (List.Mem.tail _ (List.Mem.tail _ (List.Mem.tail _ (List.Mem.tail _ (List.Mem.tail _ (List.Mem.tail _ (List.Mem.tail _ (List.Mem.tail _ (List.Mem.tail _ (List.Mem.tail _ (List.Mem.tail _ (List.Mem.tail _ (List.Mem.tail _ (List.Mem.head _)))))))))))))))))))) ⟨fun _ => MM.out, fun _ => rfl⟩).mono ?_)
  rintro e w4 ⟨rfl, hb⟩
  replace H := H.below hb
  clear hb
  have cc0 := H.cell (w.heap.size) 0 (.bool (c.o 0)) (List.Mem.head _)
  have cc1 := H.cell (w.heap.size) 1 (.bool (c.o 1)) (List.Mem.tail _ (List.Mem.head _))
  have cc2 := H.cell (w.heap.size) 2 (.bool (c.o 2)) (List.Mem.tail _ (List.Mem.tail _ (List.Mem.head _)))
  have cc3 := H.cell (w.heap.size) 3 (.bool (c.o 3)) (List.Mem.tail _ (List.Mem.tail _ (List.Mem.tail _ (List.Mem.head _))))
  have cc4 := H.cell (w.heap.size) 4 (.bool (c.o 4)) (List.Mem.tail _ (List.Mem.tail _ (List.Mem.tail _ (List.Mem.tail _ (List.Mem.head _)))))
  have cc5 := H.cell (w.heap.size) 5 (.bool (c.o 5)) (List.Mem.tail _ (List.Mem.tail _ (List.Mem.tail _ (List.Mem.tail _ (List.Mem.tail _ (List.Mem.head _))))))
  have cc6 := H.cell (w.heap.size) 6 (.bool (c.o 6)) (List.Mem.tail _ (List.Mem.tail _ (List.Mem.tail _ (List.Mem.tail _ (List.Mem.tail _ (List.Mem.tail _ (List.Mem.head _)))))))
  have cc7 := H.cell (w.heap.size) 7 (.slice aR c.nr cR) (List.Mem.tail _ (List.Mem.tail _ (List.Mem.tail _ (List.Mem.tail _ (List.Mem.tail _ (List.Mem.tail _ (List.Mem.tail _ (List.Mem.head _))))))))
  have cc8 := H.cell (w.heap.size) 8 (.slice aD c.nd cD) (List.Mem.tail _ (List.Mem.tail _ (List.Mem.tail _ (List.Mem.tail _ (List.Mem.tail _ (List.Mem.tail _ (List.Mem.tail _ (List.Mem.tail _ (List.Mem.head _)))))))))
  have lc := H.lt (w.heap.size) 0 (.bool (c.o 0)) (List.Mem.head _)
  go_wp2_with fail
  clear cc0 cc1 cc2 cc3 cc4 cc5 cc6 cc7 cc8 lc
  have KS : Hid (∀ w' : World, Held w [.cell (w.heap.size) 0 (.bool (c.o 0)), .cell (w.heap.size) 1 (.bool (c.o 1)), .cell (w.heap.size) 2 (.bool (c.o 2)), .cell (w.heap.size) 3 (.bool (c.o 3)), .cell (w.heap.size) 4 (.bool (c.o 4)), .cell (w.heap.size) 5 (.bool (c.o 5)), .cell (w.heap.size) 6 (.bool (c.o 6)), .cell (w.heap.size) 7 (.slice aR c.nr cR), .cell (w.heap.size) 8 (.slice aD c.nd cD), .free (w.heap.size) 0, .free (w.heap.size) 1, .free (w.heap.size) 2, .free (w.heap.size) 3, .free (w.heap.size) 4, .free (w.heap.size) 5, .free (w.heap.size) 6, .free (w.heap.size) 7, .free (w.heap.size) 8, calF c aR cR aD cD, factsVF] w' → w'.cell? ⟨w.heap.size, 0, none⟩ = some (.bool (c.o 0)) ∧ w'.cell? ⟨w.heap.size, 1, none⟩ = some (.bool (c.o 1)) ∧ w'.cell? ⟨w.heap.size, 2, none⟩ = some (.bool (c.o 2)) ∧ w'.cell? ⟨w.heap.size, 3, none⟩ = some (.bool (c.o 3)) ∧ w'.cell? ⟨w.heap.size, 4, none⟩ = some (.bool (c.o 4)) ∧ w'.cell? ⟨w.heap.size, 5, none⟩ = some (.bool (c.o 5)) ∧ w'.cell? ⟨w.heap.size, 6, none⟩ = some (.bool (c.o 6)) ∧ w'.cell? ⟨w.heap.size, 7, none⟩ = some (.slice aR c.nr cR) ∧ w'.cell? ⟨w.heap.size, 8, none⟩ = some (.slice aD c.nd cD) ∧ Held w [.cell (w.heap.size) 0 (.bool (c.o 0)), .cell (w.heap.size) 1 (.bool (c.o 1)), .cell (w.heap.size) 2 (.bool (c.o 2)), .cell (w.heap.size) 3 (.bool (c.o 3)), .cell (w.heap.size) 4 (.bool (c.o 4)), .cell (w.heap.size) 5 (.bool (c.o 5)), .cell (w.heap.size) 6 (.bool (c.o 6)), .cell (w.heap.size) 7 (.slice aR c.nr cR), .cell (w.heap.size) 8 (.slice aD c.nd cD), .free (w.heap.size) 0, .free (w.heap.size) 1, .free (w.heap.size) 2, .free (w.heap.size) 3, .free (w.heap.size) 4, .free (w.heap.size) 5, .free (w.heap.size) 6, .free (w.heap.size) 7, .free (w.heap.size) 8, calF c aR cR aD cD, factsVF] w') := Lib.hid (fun _ h => ⟨h.cell (w.heap.size) 0 (.bool (c.o 0)) (List.Mem.head _), h.cell (w.heap.size) 1 (.bool (c.o 1)) (List.Mem.tail _ (List.Mem.head _)), h.cell (w.heap.size) 2 (.bool (c.o 2)) (List.Mem.tail _ (List.Mem.tail _ (List.Mem.head _))), h.cell (w.heap.size) 3 (.bool (c.o 3)) (List.Mem.tail _ (List.Mem.tail _ (List.Mem.tail _ (List.Mem.head _)))), h.cell (w.heap.size) 4 (.bool (c.o 4)) (List.Mem.tail _ (List.Mem.tail _ (List.Mem.tail _ (List.Mem.tail _ (List.Mem.head _))))), h.cell (w.heap.size) 5 (.bool (c.o 5)) (List.Mem.tail _ (List.Mem.tail _ (List.Mem.tail _ (List.Mem.tail _ (List.Mem.tail _ (List.Mem.head _)))))), h.cell (w.heap.size) 6 (.bool (c.o 6)) (List.Mem.tail _ (List.Mem.tail _ (List.Mem.tail _ (List.Mem.tail _ (List.Mem.tail _ (List.Mem.tail _ (List.Mem.head _))))))), h.cell (w.heap.size) 7 (.slice aR c.nr cR) (List.Mem.tail _ (List.Mem.tail _ (List.Mem.tail _ (List.Mem.tail _ (List.Mem.tail _ (List.Mem.tail _ (List.Mem.tail _ (List.Mem.head _)))))))), h.cell (w.heap.size) 8 (.slice aD c.nd cD) (List.Mem.tail _ (List.Mem.tail _ (List.Mem.tail _ (List.Mem.tail _ (List.Mem.tail _ (List.Mem.tail _ (List.Mem.tail _ (List.Mem.tail _ (List.Mem.head _))))))))), h⟩)
  have KH : Hid (∀ w' : World, w'.cell? ⟨w.heap.size, 0, none⟩ = some (.bool (c.o 0)) ∧ w'.cell? ⟨w.heap.size, 1, none⟩ = some (.bool (c.o 1)) ∧ w'.cell? ⟨w.heap.size, 2, none⟩ = some (.bool (c.o 2)) ∧ w'.cell? ⟨w.heap.size, 3, none⟩ = some (.bool (c.o 3)) ∧ w'.cell? ⟨w.heap.size, 4, none⟩ = some (.bool (c.o 4)) ∧ w'.cell? ⟨w.heap.size, 5, none⟩ = some (.bool (c.o 5)) ∧ w'.cell? ⟨w.heap.size, 6, none⟩ = some (.bool (c.o 6)) ∧ w'.cell? ⟨w.heap.size, 7, none⟩ = some (.slice aR c.nr cR) ∧ w'.cell? ⟨w.heap.size, 8, none⟩ = some (.slice aD c.nd cD) ∧ Held w [.cell (w.heap.size) 0 (.bool (c.o 0)), .cell (w.heap.size) 1 (.bool (c.o 1)), .cell (w.heap.size) 2 (.bool (c.o 2)), .cell (w.heap.size) 3 (.bool (c.o 3)), .cell (w.heap.size) 4 (.bool (c.o 4)), .cell (w.heap.size) 5 (.bool (c.o 5)), .cell (w.heap.size) 6 (.bool (c.o 6)), .cell (w.heap.size) 7 (.slice aR c.nr cR), .cell (w.heap.size) 8 (.slice aD c.nd cD), .free (w.heap.size) 0, .free (w.heap.size) 1, .free (w.heap.size) 2, .free (w.heap.size) 3, .free (w.heap.size) 4, .free (w.heap.size) 5, .free (w.heap.size) 6, .free (w.heap.size) 7, .free (w.heap.size) 8, calF c aR cR aD cD, factsVF] w' → Held w [.cell (w.heap.size) 0 (.bool (c.o 0)), .cell (w.heap.size) 1 (.bool (c.o 1)), .cell (w.heap.size) 2 (.bool (c.o 2)), .cell (w.heap.size) 3 (.bool (c.o 3)), .cell (w.heap.size) 4 (.bool (c.o 4)), .cell (w.heap.size) 5 (.bool (c.o 5)), .cell (w.heap.size) 6 (.bool (c.o 6)), .cell (w.heap.size) 7 (.slice aR c.nr cR), .cell (w.heap.size) 8 (.slice aD c.nd cD), .free (w.heap.size) 0, .free (w.heap.size) 1, .free (w.heap.size) 2, .free (w.heap.size) 3, .free (w.heap.size) 4, .free (w.heap.size) 5, .free (w.heap.size) 6, .free (w.heap.size) 7, .free (w.heap.size) 8, calF c aR cR aD cD, factsVF] w') := Lib.hid (fun _ h => h.2.2.2.2.2.2.2.2.2)
  have KU : Hid (∀ w' : World, w'.cell? ⟨w.heap.size, 0, none⟩ = some (.bool (c.o 0)) ∧ w'.cell? ⟨w.heap.size, 1, none⟩ = some (.bool (c.o 1)) ∧ w'.cell? ⟨w.heap.size, 2, none⟩ = some (.bool (c.o 2)) ∧ w'.cell? ⟨w.heap.size, 3, none⟩ = some (.bool (c.o 3)) ∧ w'.cell? ⟨w.heap.size, 4, none⟩ = some (.bool (c.o 4)) ∧ w'.cell? ⟨w.heap.size, 5, none⟩ = some (.bool (c.o 5)) ∧ w'.cell? ⟨w.heap.size, 6, none⟩ = some (.bool (c.o 6)) ∧ w'.cell? ⟨w.heap.size, 7, none⟩ = some (.slice aR c.nr cR) ∧ w'.cell? ⟨w.heap.size, 8, none⟩ = some (.slice aD c.nd cD) ∧ Held w [.cell (w.heap.size) 0 (.bool (c.o 0)), .cell (w.heap.size) 1 (.bool (c.o 1)), .cell (w.heap.size) 2 (.bool (c.o 2)), .cell (w.heap.size) 3 (.bool (c.o 3)), .cell (w.heap.size) 4 (.bool (c.o 4)), .cell (w.heap.size) 5 (.bool (c.o 5)), .cell (w.heap.size) 6 (.bool (c.o 6)), .cell (w.heap.size) 7 (.slice aR c.nr cR), .cell (w.heap.size) 8 (.slice aD c.nd cD), .free (w.heap.size) 0, .free (w.heap.size) 1, .free (w.heap.size) 2, .free (w.heap.size) 3, .free (w.heap.size) 4, .free (w.heap.size) 5, .free (w.heap.size) 6, .free (w.heap.size) 7, .free (w.heap.size) 8, calF c aR cR aD cD, factsVF] w' → FactsV w') := Lib.hid (fun w' h => (KH.out w' h).factsV (List.Mem.tail _ (List.Mem.tail _ (List.Mem.tail _ (List.Mem.tail _ (List.Mem.tail _ (List.Mem.tail _ (List.Mem.tail _ (List.Mem.tail _ (List.Mem.tail _ (List.Mem.tail _ (List.Mem.tail _ (List.Mem.tail _ (List.Mem.tail _ (List.Mem.tail _ (List.Mem.tail _ (List.Mem.tail _ (List.Mem.tail _ (List.Mem.tail _ (List.Mem.tail _ (List.Mem.head _)))))))))))))))))))))
  have KCc : Hid (∀ w' : World, w'.cell? ⟨w.heap.size, 0, none⟩ = some (.bool (c.o 0)) ∧ w'.cell? ⟨w.heap.size, 1, none⟩ = some (.bool (c.o 1)) ∧ w'.cell? ⟨w.heap.size, 2, none⟩ = some (.bool (c.o 2)) ∧ w'.cell? ⟨w.heap.size, 3, none⟩ = some (.bool (c.o 3)) ∧ w'.cell? ⟨w.heap.size, 4, none⟩ = some (.bool (c.o 4)) ∧ w'.cell? ⟨w.heap.size, 5, none⟩ = some (.bool (c.o 5)) ∧ w'.cell? ⟨w.heap.size, 6, none⟩ = some (.bool (c.o 6)) ∧ w'.cell? ⟨w.heap.size, 7, none⟩ = some (.slice aR c.nr cR) ∧ w'.cell? ⟨w.heap.size, 8, none⟩ = some (.slice aD c.nd cD) ∧ Held w [.cell (w.heap.size) 0 (.bool (c.o 0)), .cell (w.heap.size) 1 (.bool (c.o 1)), .cell (w.heap.size) 2 (.bool (c.o 2)), .cell (w.heap.size) 3 (.bool (c.o 3)), .cell (w.heap.size) 4 (.bool (c.o 4)), .cell (w.heap.size) 5 (.bool (c.o 5)), .cell (w.heap.size) 6 (.bool (c.o 6)), .cell (w.heap.size) 7 (.slice aR c.nr cR), .cell (w.heap.size) 8 (.slice aD c.nd cD), .free (w.heap.size) 0, .free (w.heap.size) 1, .free (w.heap.size) 2, .free (w.heap.size) 3, .free (w.heap.size) 4, .free (w.heap.size) 5, .free (w.heap.size) 6, .free (w.heap.size) 7, .free (w.heap.size) 8, calF c aR cR aD cD, factsVF] w' → CalAt w' c aR cR aD cD) := Lib.hid (fun w' h => (KH.out w' h).cal (List.Mem.tail _ (List.Mem.tail _ (List.Mem.tail _ (List.Mem.tail _ (List.Mem.tail _ (List.Mem.tail _ (List.Mem.tail _ (List.Mem.tail _ (List.Mem.tail _ (List.Mem.tail _ (List.Mem.tail _ (List.Mem.tail _ (List.Mem.tail _ (List.Mem.tail _ (List.Mem.tail _ (List.Mem.tail _ (List.Mem.tail _ (List.Mem.tail _ (List.Mem.head _))))))))))))))))))))
  have HS := Lib.hid (KS.out _ H.drew)
  go_region_held3 (fun w' => w'.cell? ⟨w.heap.size, 0, none⟩ = some (.bool (c.o 0)) ∧ w'.cell? ⟨w.heap.size, 1, none⟩ = some (.bool (c.o 1)) ∧ w'.cell? ⟨w.heap.size, 2, none⟩ = some (.bool (c.o 2)) ∧ w'.cell? ⟨w.heap.size, 3, none⟩ = some (.bool (c.o 3)) ∧ w'.cell? ⟨w.heap.size, 4, none⟩ = some (.bool (c.o 4)) ∧ w'.cell? ⟨w.heap.size, 5, none⟩ = some (.bool (c.o 5)) ∧ w'.cell? ⟨w.heap.size, 6, none⟩ = some (.bool (c.o 6)) ∧ w'.cell? ⟨w.heap.size, 7, none⟩ = some (.slice aR c.nr cR) ∧ w'.cell? ⟨w.heap.size, 8, none⟩ = some (.slice aD c.nd cD) ∧ Held w [.cell (w.heap.size) 0 (.bool (c.o 0)), .cell (w.heap.size) 1 (.bool (c.o 1)), .cell (w.heap.size) 2 (.bool (c.o 2)), .cell (w.heap.size) 3 (.bool (c.o 3)), .cell (w.heap.size) 4 (.bool (c.o 4)), .cell (w.heap.size) 5 (.bool (c.o 5)), .cell (w.heap.size) 6 (.bool (c.o 6)), .cell (w.heap.size) 7 (.slice aR c.nr cR), .cell (w.heap.size) 8 (.slice aD c.nd cD), .free (w.heap.size) 0, .free (w.heap.size) 1, .free (w.heap.size) 2, .free (w.heap.size) 3, .free (w.heap.size) 4, .free (w.heap.size) 5, .free (w.heap.size) 6, .free (w.heap.size) 7, .free (w.heap.size) 8, calF c aR cR aD cD, factsVF] w')
    (first | exact HS.out | (refine KS.out _ (Held.below (KH.out _ ?_) hb); assumption) | (refine KS.out _ (Held.alloc (KH.out _ ?_) _); assumption))
    (first
      | (go_at_call 15; (with_reducible refine (K.is c aR cR aD cD n b _ (KU.out _ (by assumption)) MM.out (KCc.out _ (by assumption)) HB.out).mono ?_); rintro e w' ⟨rfl, hb⟩)
      | (go_at_call 16; (with_reducible refine (rcis_any c aR cR aD cD n b _ HZ.out MM.out.rules (KCc.out _ (by assumption)) HB.out).mono ?_); rintro e w' ⟨rfl, hb⟩))
  all_goals
    go_wp2
    go_ret
    exact ⟨rfl, (KH.out _ (by assumption)).old⟩

theorem catells_walk (K : CalWay) (c : Ca) (aR : Option Addr) (cR : Nat) (aD : Option Addr) (cD : Nat) (n : Int) (w : World) (hL : FactsV w) (hC : CalAt w c aR cR aD cD) (bn : -9223372036854775808 ≤ n ∧ n < 9223372036854775808) :
    Calls Tryd.prog 3 #[.agg #[.bool (c.o 0), .bool (c.o 1), .bool (c.o 2), .bool (c.o 3), .bool (c.o 4), .bool (c.o 5), .bool (c.o 6), .slice aR c.nr cR, .slice aD c.nd cD], .int .i64 n] w fun e w' => e = .returned (.bool true) ∧ Below w.heap.size w w' := by
  by_cases hf : c.Few
  · by_cases hm : c.May
    · obtain ⟨b, hb⟩ := bool_of (c.Is n)
      exact catells_t K c aR cR aD cD n w hL hC (decide_eq_true hf) hf.small hm b hb
    · exact catells_f K c aR cR aD cD n w hL hC (decide_eq_true hf) hf.small hm
  · exact catells_many K c aR cR aD cD n w hL hC (decide_eq_false hf)
end Go.Proofs.YtkadodkdbopgnaaDoor
