/- RollNearest: the walk. -/
import Derived.Test.YtkbhicdcjfpbaaaDoorRoShown
namespace Go.Proofs.YtkbhicdcjfpbaaaDoor
open Go.RowKit
set_option linter.unusedVariables false
set_option linter.unusedSimpArgs false


set_option maxHeartbeats 8000000 in
set_option maxRecDepth 100000 in
theorem ronear_many (c : Ca) (aR : Option Addr) (cR : Nat) (aD : Option Addr) (cD : Nat) (n k : Int) (w : World) (hL : FactsW w) (hCc : CalAt w c aR cR aD cD) (bk : 0 ≤ k ∧ k < 256) (hf : decide (c.nr ≤ 12 ∧ c.nd ≤ 60) = false) :
    Calls Tryd.prog 4 #[.agg #[.bool (c.o 0), .bool (c.o 1), .bool (c.o 2), .bool (c.o 3), .bool (c.o 4), .bool (c.o 5), .bool (c.o 6), .slice aR c.nr cR, .slice aD c.nd cD], .int .i64 n, .int .u8 k] w fun e w' => e = .returned (.bool true) ∧ Below w.heap.size w w' := by
  have H := ((Held.start w).add (f := factsWF) hL).add (f := calF c aR cR aD cD) hCc
  clear hL hCc
  have HF := Lib.hid hf
  clear hf
  go_enter Tryd.func4, Tryd.ntmps4
  go_wp2_with fail
  replace H := (H.box_9 (w.heap.size) (.bool (c.o 0)) (.bool (c.o 1)) (.bool (c.o 2)) (.bool (c.o 3)) (.bool (c.o 4)) (.bool (c.o 5)) (.bool (c.o 6)) (.slice aR c.nr cR) (.slice aD c.nd cD) 26 rfl)
  (with_reducible refine (roshown_any _ (H.factsW (mt8 (mt8 (mt1 (mt1 (mt1 mh))))))).mono ?_)
  rintro e w1 ⟨rfl, hb⟩
  replace H := H.below hb
  clear hb
  have cc0 := H.cell (w.heap.size) 0 (.bool (c.o 0)) mh
  have cc1 := H.cell (w.heap.size) 1 (.bool (c.o 1)) (mt1 mh)
  have cc2 := H.cell (w.heap.size) 2 (.bool (c.o 2)) (mt1 (mt1 mh))
  have cc3 := H.cell (w.heap.size) 3 (.bool (c.o 3)) (mt1 (mt1 (mt1 mh)))
  have cc4 := H.cell (w.heap.size) 4 (.bool (c.o 4)) (mt1 (mt1 (mt1 (mt1 mh))))
  have cc5 := H.cell (w.heap.size) 5 (.bool (c.o 5)) (mt1 (mt1 (mt1 (mt1 (mt1 mh)))))
  have cc6 := H.cell (w.heap.size) 6 (.bool (c.o 6)) (mt1 (mt1 (mt1 (mt1 (mt1 (mt1 mh))))))
  have cc7 := H.cell (w.heap.size) 7 (.slice aR c.nr cR) (mt1 (mt1 (mt1 (mt1 (mt1 (mt1 (mt1 mh)))))))
  have cc8 := H.cell (w.heap.size) 8 (.slice aD c.nd cD) (mt8 mh)
  have lc := H.lt (w.heap.size) 0 (.bool (c.o 0)) mh
  go_wp2_with fail
  clear cc0 cc1 cc2 cc3 cc4 cc5 cc6 cc7 cc8 lc
  (with_reducible refine (few_any c aR cR aD cD false _ HF.out).mono ?_)
  rintro e w2 ⟨rfl, hb⟩
  replace H := H.below hb
  clear hb
  go_wp2_with fail
  go_ret
  exact ⟨rfl, H.old⟩

set_option maxHeartbeats 8000000 in
set_option maxRecDepth 100000 in
theorem ronear_no (c : Ca) (aR : Option Addr) (cR : Nat) (aD : Option Addr) (cD : Nat) (n k : Int) (w : World) (hL : FactsW w) (hCc : CalAt w c aR cR aD cD) (bk : 0 ≤ k ∧ k < 256) (hf : decide (c.nr ≤ 12 ∧ c.nd ≤ 60) = true) (hS : c.Small) (hm : ¬ c.May) :
    Calls Tryd.prog 4 #[.agg #[.bool (c.o 0), .bool (c.o 1), .bool (c.o 2), .bool (c.o 3), .bool (c.o 4), .bool (c.o 5), .bool (c.o 6), .slice aR c.nr cR, .slice aD c.nd cD], .int .i64 n, .int .u8 k] w fun e w' => e = .returned (.bool true) ∧ Below w.heap.size w w' := by
  have H := ((Held.start w).add (f := factsWF) hL).add (f := calF c aR cR aD cD) hCc
  clear hL hCc
  have HF := Lib.hid hf
  have HZ := Lib.hid hS
  have NM := Lib.hid hm
  clear hf hS hm
  go_enter Tryd.func4, Tryd.ntmps4
  go_wp2_with fail
  replace H := (H.box_9 (w.heap.size) (.bool (c.o 0)) (.bool (c.o 1)) (.bool (c.o 2)) (.bool (c.o 3)) (.bool (c.o 4)) (.bool (c.o 5)) (.bool (c.o 6)) (.slice aR c.nr cR) (.slice aD c.nd cD) 26 rfl)
  (with_reducible refine (roshown_any _ (H.factsW (mt8 (mt8 (mt1 (mt1 (mt1 mh))))))).mono ?_)
  rintro e w1 ⟨rfl, hb⟩
  replace H := H.below hb
  clear hb
  have cc0 := H.cell (w.heap.size) 0 (.bool (c.o 0)) mh
  have cc1 := H.cell (w.heap.size) 1 (.bool (c.o 1)) (mt1 mh)
  have cc2 := H.cell (w.heap.size) 2 (.bool (c.o 2)) (mt1 (mt1 mh))
  have cc3 := H.cell (w.heap.size) 3 (.bool (c.o 3)) (mt1 (mt1 (mt1 mh)))
  have cc4 := H.cell (w.heap.size) 4 (.bool (c.o 4)) (mt1 (mt1 (mt1 (mt1 mh))))
  have cc5 := H.cell (w.heap.size) 5 (.bool (c.o 5)) (mt1 (mt1 (mt1 (mt1 (mt1 mh)))))
  have cc6 := H.cell (w.heap.size) 6 (.bool (c.o 6)) (mt1 (mt1 (mt1 (mt1 (mt1 (mt1 mh))))))
  have cc7 := H.cell (w.heap.size) 7 (.slice aR c.nr cR) (mt1 (mt1 (mt1 (mt1 (mt1 (mt1 (mt1 mh)))))))
  have cc8 := H.cell (w.heap.size) 8 (.slice aD c.nd cD) (mt8 mh)
  have lc := H.lt (w.heap.size) 0 (.bool (c.o 0)) mh
  go_wp2_with fail
  clear cc0 cc1 cc2 cc3 cc4 cc5 cc6 cc7 cc8 lc
  (with_reducible refine (few_any c aR cR aD cD true _ HF.out).mono ?_)
  rintro e w2 ⟨rfl, hb⟩
  replace H := H.below hb
  clear hb
  have cc0 := H.cell (w.heap.size) 0 (.bool (c.o 0)) mh
  have cc1 := H.cell (w.heap.size) 1 (.bool (c.o 1)) (mt1 mh)
  have cc2 := H.cell (w.heap.size) 2 (.bool (c.o 2)) (mt1 (mt1 mh))
  have cc3 := H.cell (w.heap.size) 3 (.bool (c.o 3)) (mt1 (mt1 (mt1 mh)))
  have cc4 := H.cell (w.heap.size) 4 (.bool (c.o 4)) (mt1 (mt1 (mt1 (mt1 mh))))
  have cc5 := H.cell (w.heap.size) 5 (.bool (c.o 5)) (mt1 (mt1 (mt1 (mt1 (mt1 mh)))))
  have cc6 := H.cell (w.heap.size) 6 (.bool (c.o 6)) (mt1 (mt1 (mt1 (mt1 (mt1 (mt1 mh))))))
  have cc7 := H.cell (w.heap.size) 7 (.slice aR c.nr cR) (mt1 (mt1 (mt1 (mt1 (mt1 (mt1 (mt1 mh)))))))
  have cc8 := H.cell (w.heap.size) 8 (.slice aD c.nd cD) (mt8 mh)
  have lc := H.lt (w.heap.size) 0 (.bool (c.o 0)) mh
  go_wp2_with fail
  clear cc0 cc1 cc2 cc3 cc4 cc5 cc6 cc7 cc8 lc
  (with_reducible refine (rcmay_any c aR cR aD cD false _ HZ.out (H.cal (mt8 (mt8 (mt1 (mt1 mh))))) ⟨fun g => absurd g (by decide), fun g => absurd g NM.out⟩).mono ?_)
  rintro e w3 ⟨rfl, hb⟩
  replace H := H.below hb
  clear hb
  go_wp2_with fail
  go_ret
  exact ⟨rfl, H.old⟩

set_option maxHeartbeats 8000000 in
set_option maxRecDepth 100000 in
theorem ronear_noday (c : Ca) (aR : Option Addr) (cR : Nat) (aD : Option Addr) (cD : Nat) (n k : Int) (w : World) (hL : FactsW w) (hCc : CalAt w c aR cR aD cD) (bk : 0 ≤ k ∧ k < 256) (hf : decide (c.nr ≤ 12 ∧ c.nd ≤ 60) = true) (hS : c.Small) (hM : c.May) (hd : decide (1 ≤ n ∧ n ≤ 3652059) = false) :
    Calls Tryd.prog 4 #[.agg #[.bool (c.o 0), .bool (c.o 1), .bool (c.o 2), .bool (c.o 3), .bool (c.o 4), .bool (c.o 5), .bool (c.o 6), .slice aR c.nr cR, .slice aD c.nd cD], .int .i64 n, .int .u8 k] w fun e w' => e = .returned (.bool true) ∧ Below w.heap.size w w' := by
  have H := ((Held.start w).add (f := factsWF) hL).add (f := calF c aR cR aD cD) hCc
  clear hL hCc
  have HF := Lib.hid hf
  have HZ := Lib.hid hS
  have MM := Lib.hid hM
  have HD := Lib.hid hd
  clear hf hS hM hd
  go_enter Tryd.func4, Tryd.ntmps4
  go_wp2_with fail
  replace H := (H.box_9 (w.heap.size) (.bool (c.o 0)) (.bool (c.o 1)) (.bool (c.o 2)) (.bool (c.o 3)) (.bool (c.o 4)) (.bool (c.o 5)) (.bool (c.o 6)) (.slice aR c.nr cR) (.slice aD c.nd cD) 26 rfl)
  (with_reducible refine (roshown_any _ (H.factsW (mt8 (mt8 (mt1 (mt1 (mt1 mh))))))).mono ?_)
  rintro e w1 ⟨rfl, hb⟩
  replace H := H.below hb
  clear hb
  have cc0 := H.cell (w.heap.size) 0 (.bool (c.o 0)) mh
  have cc1 := H.cell (w.heap.size) 1 (.bool (c.o 1)) (mt1 mh)
  have cc2 := H.cell (w.heap.size) 2 (.bool (c.o 2)) (mt1 (mt1 mh))
  have cc3 := H.cell (w.heap.size) 3 (.bool (c.o 3)) (mt1 (mt1 (mt1 mh)))
  have cc4 := H.cell (w.heap.size) 4 (.bool (c.o 4)) (mt1 (mt1 (mt1 (mt1 mh))))
  have cc5 := H.cell (w.heap.size) 5 (.bool (c.o 5)) (mt1 (mt1 (mt1 (mt1 (mt1 mh)))))
  have cc6 := H.cell (w.heap.size) 6 (.bool (c.o 6)) (mt1 (mt1 (mt1 (mt1 (mt1 (mt1 mh))))))
  have cc7 := H.cell (w.heap.size) 7 (.slice aR c.nr cR) (mt1 (mt1 (mt1 (mt1 (mt1 (mt1 (mt1 mh)))))))
  have cc8 := H.cell (w.heap.size) 8 (.slice aD c.nd cD) (mt8 mh)
  have lc := H.lt (w.heap.size) 0 (.bool (c.o 0)) mh
  go_wp2_with fail
  clear cc0 cc1 cc2 cc3 cc4 cc5 cc6 cc7 cc8 lc
  (with_reducible refine (few_any c aR cR aD cD true _ HF.out).mono ?_)
  rintro e w2 ⟨rfl, hb⟩
  replace H := H.below hb
  clear hb
  have cc0 := H.cell (w.heap.size) 0 (.bool (c.o 0)) mh
  have cc1 := H.cell (w.heap.size) 1 (.bool (c.o 1)) (mt1 mh)
  have cc2 := H.cell (w.heap.size) 2 (.bool (c.o 2)) (mt1 (mt1 mh))
  have cc3 := H.cell (w.heap.size) 3 (.bool (c.o 3)) (mt1 (mt1 (mt1 mh)))
  have cc4 := H.cell (w.heap.size) 4 (.bool (c.o 4)) (mt1 (mt1 (mt1 (mt1 mh))))
  have cc5 := H.cell (w.heap.size) 5 (.bool (c.o 5)) (mt1 (mt1 (mt1 (mt1 (mt1 mh)))))
  have cc6 := H.cell (w.heap.size) 6 (.bool (c.o 6)) (mt1 (mt1 (mt1 (mt1 (mt1 (mt1 mh))))))
  have cc7 := H.cell (w.heap.size) 7 (.slice aR c.nr cR) (mt1 (mt1 (mt1 (mt1 (mt1 (mt1 (mt1 mh)))))))
  have cc8 := H.cell (w.heap.size) 8 (.slice aD c.nd cD) (mt8 mh)
  have lc := H.lt (w.heap.size) 0 (.bool (c.o 0)) mh
  go_wp2_with fail
  clear cc0 cc1 cc2 cc3 cc4 cc5 cc6 cc7 cc8 lc
  (with_reducible refine (rcmay_any c aR cR aD cD true _ HZ.out (H.cal (mt8 (mt8 (mt1 (mt1 mh))))) ⟨fun _ => MM.out, fun _ => rfl⟩).mono ?_)
  rintro e w3 ⟨rfl, hb⟩
  replace H := H.below hb
  clear hb
  have cc0 := H.cell (w.heap.size) 0 (.bool (c.o 0)) mh
  have cc1 := H.cell (w.heap.size) 1 (.bool (c.o 1)) (mt1 mh)
  have cc2 := H.cell (w.heap.size) 2 (.bool (c.o 2)) (mt1 (mt1 mh))
  have cc3 := H.cell (w.heap.size) 3 (.bool (c.o 3)) (mt1 (mt1 (mt1 mh)))
  have cc4 := H.cell (w.heap.size) 4 (.bool (c.o 4)) (mt1 (mt1 (mt1 (mt1 mh))))
  have cc5 := H.cell (w.heap.size) 5 (.bool (c.o 5)) (mt1 (mt1 (mt1 (mt1 (mt1 mh)))))
  have cc6 := H.cell (w.heap.size) 6 (.bool (c.o 6)) (mt1 (mt1 (mt1 (mt1 (mt1 (mt1 mh))))))
  have cc7 := H.cell (w.heap.size) 7 (.slice aR c.nr cR) (mt1 (mt1 (mt1 (mt1 (mt1 (mt1 (mt1 mh)))))))
  have cc8 := H.cell (w.heap.size) 8 (.slice aD c.nd cD) (mt8 mh)
  have lc := H.lt (w.heap.size) 0 (.bool (c.o 0)) mh
  go_wp2_with fail
  clear cc0 cc1 cc2 cc3 cc4 cc5 cc6 cc7 cc8 lc
  (with_reducible refine (Calls.same (rday13_is n false _ HD.out)).mono ?_)
  rintro e w4 ⟨rfl, hb⟩
  replace H := H.below hb
  clear hb
  go_wp2_with fail
  go_ret
  exact ⟨rfl, H.old⟩

set_option maxHeartbeats 8000000 in
set_option maxRecDepth 100000 in
theorem ronear_is (c : Ca) (aR : Option Addr) (cR : Nat) (aD : Option Addr) (cD : Nat) (n k : Int) (w : World) (hL : FactsW w) (hCc : CalAt w c aR cR aD cD) (bk : 0 ≤ k ∧ k < 256) (hf : decide (c.nr ≤ 12 ∧ c.nd ≤ 60) = true) (hS : c.Small) (hM : c.May) (hd : decide (1 ≤ n ∧ n ≤ 3652059) = true) (nb : 1 ≤ n ∧ n ≤ 3652059) (hi : c.Is n) (h1 : StepIs c 1 n n 0) (h2 : StepIs c (-1) n n 0) (h3 : ToIs c n (k % 5) n 0) :
    Calls Tryd.prog 4 #[.agg #[.bool (c.o 0), .bool (c.o 1), .bool (c.o 2), .bool (c.o 3), .bool (c.o 4), .bool (c.o 5), .bool (c.o 6), .slice aR c.nr cR, .slice aD c.nd cD], .int .i64 n, .int .u8 k] w fun e w' => e = .returned (.bool true) ∧ Below w.heap.size w w' := by
  have H := ((Held.start w).add (f := factsWF) hL).add (f := calF c aR cR aD cD) hCc
  clear hL hCc
  have HF := Lib.hid hf
  have HZ := Lib.hid hS
  have MM := Lib.hid hM
  have HD := Lib.hid hd
  have HI := Lib.hid hi
  have H1 := Lib.hid h1
  have H2 := Lib.hid h2
  have H3 := Lib.hid h3
  clear hf hS hM hd hi h1 h2 h3
  go_enter Tryd.func4, Tryd.ntmps4
  go_wp2_with fail
  replace H := (H.box_9 (w.heap.size) (.bool (c.o 0)) (.bool (c.o 1)) (.bool (c.o 2)) (.bool (c.o 3)) (.bool (c.o 4)) (.bool (c.o 5)) (.bool (c.o 6)) (.slice aR c.nr cR) (.slice aD c.nd cD) 26 rfl)
  (with_reducible refine (roshown_any _ (H.factsW (mt8 (mt8 (mt1 (mt1 (mt1 mh))))))).mono ?_)
  rintro e w1 ⟨rfl, hb⟩
  replace H := H.below hb
  clear hb
  have cc0 := H.cell (w.heap.size) 0 (.bool (c.o 0)) mh
  have cc1 := H.cell (w.heap.size) 1 (.bool (c.o 1)) (mt1 mh)
  have cc2 := H.cell (w.heap.size) 2 (.bool (c.o 2)) (mt1 (mt1 mh))
  have cc3 := H.cell (w.heap.size) 3 (.bool (c.o 3)) (mt1 (mt1 (mt1 mh)))
  have cc4 := H.cell (w.heap.size) 4 (.bool (c.o 4)) (mt1 (mt1 (mt1 (mt1 mh))))
  have cc5 := H.cell (w.heap.size) 5 (.bool (c.o 5)) (mt1 (mt1 (mt1 (mt1 (mt1 mh)))))
  have cc6 := H.cell (w.heap.size) 6 (.bool (c.o 6)) (mt1 (mt1 (mt1 (mt1 (mt1 (mt1 mh))))))
  have cc7 := H.cell (w.heap.size) 7 (.slice aR c.nr cR) (mt1 (mt1 (mt1 (mt1 (mt1 (mt1 (mt1 mh)))))))
  have cc8 := H.cell (w.heap.size) 8 (.slice aD c.nd cD) (mt8 mh)
  have lc := H.lt (w.heap.size) 0 (.bool (c.o 0)) mh
  go_wp2_with fail
  clear cc0 cc1 cc2 cc3 cc4 cc5 cc6 cc7 cc8 lc
  (with_reducible refine (few_any c aR cR aD cD true _ HF.out).mono ?_)
  rintro e w2 ⟨rfl, hb⟩
  replace H := H.below hb
  clear hb
  have cc0 := H.cell (w.heap.size) 0 (.bool (c.o 0)) mh
  have cc1 := H.cell (w.heap.size) 1 (.bool (c.o 1)) (mt1 mh)
  have cc2 := H.cell (w.heap.size) 2 (.bool (c.o 2)) (mt1 (mt1 mh))
  have cc3 := H.cell (w.heap.size) 3 (.bool (c.o 3)) (mt1 (mt1 (mt1 mh)))
  have cc4 := H.cell (w.heap.size) 4 (.bool (c.o 4)) (mt1 (mt1 (mt1 (mt1 mh))))
  have cc5 := H.cell (w.heap.size) 5 (.bool (c.o 5)) (mt1 (mt1 (mt1 (mt1 (mt1 mh)))))
  have cc6 := H.cell (w.heap.size) 6 (.bool (c.o 6)) (mt1 (mt1 (mt1 (mt1 (mt1 (mt1 mh))))))
  have cc7 := H.cell (w.heap.size) 7 (.slice aR c.nr cR) (mt1 (mt1 (mt1 (mt1 (mt1 (mt1 (mt1 mh)))))))
  have cc8 := H.cell (w.heap.size) 8 (.slice aD c.nd cD) (mt8 mh)
  have lc := H.lt (w.heap.size) 0 (.bool (c.o 0)) mh
  go_wp2_with fail
  clear cc0 cc1 cc2 cc3 cc4 cc5 cc6 cc7 cc8 lc
  (with_reducible refine (rcmay_any c aR cR aD cD true _ HZ.out (H.cal (mt8 (mt8 (mt1 (mt1 mh))))) ⟨fun _ => MM.out, fun _ => rfl⟩).mono ?_)
  rintro e w3 ⟨rfl, hb⟩
  replace H := H.below hb
  clear hb
  have cc0 := H.cell (w.heap.size) 0 (.bool (c.o 0)) mh
  have cc1 := H.cell (w.heap.size) 1 (.bool (c.o 1)) (mt1 mh)
  have cc2 := H.cell (w.heap.size) 2 (.bool (c.o 2)) (mt1 (mt1 mh))
  have cc3 := H.cell (w.heap.size) 3 (.bool (c.o 3)) (mt1 (mt1 (mt1 mh)))
  have cc4 := H.cell (w.heap.size) 4 (.bool (c.o 4)) (mt1 (mt1 (mt1 (mt1 mh))))
  have cc5 := H.cell (w.heap.size) 5 (.bool (c.o 5)) (mt1 (mt1 (mt1 (mt1 (mt1 mh)))))
  have cc6 := H.cell (w.heap.size) 6 (.bool (c.o 6)) (mt1 (mt1 (mt1 (mt1 (mt1 (mt1 mh))))))
  have cc7 := H.cell (w.heap.size) 7 (.slice aR c.nr cR) (mt1 (mt1 (mt1 (mt1 (mt1 (mt1 (mt1 mh)))))))
  have cc8 := H.cell (w.heap.size) 8 (.slice aD c.nd cD) (mt8 mh)
  have lc := H.lt (w.heap.size) 0 (.bool (c.o 0)) mh
  go_wp2_with fail
  clear cc0 cc1 cc2 cc3 cc4 cc5 cc6 cc7 cc8 lc
  (with_reducible refine (Calls.same (rday13_is n true _ HD.out)).mono ?_)
  rintro e w4 ⟨rfl, hb⟩
  replace H := H.below hb
  clear hb
  have cc0 := H.cell (w.heap.size) 0 (.bool (c.o 0)) mh
  have cc1 := H.cell (w.heap.size) 1 (.bool (c.o 1)) (mt1 mh)
  have cc2 := H.cell (w.heap.size) 2 (.bool (c.o 2)) (mt1 (mt1 mh))
  have cc3 := H.cell (w.heap.size) 3 (.bool (c.o 3)) (mt1 (mt1 (mt1 mh)))
  have cc4 := H.cell (w.heap.size) 4 (.bool (c.o 4)) (mt1 (mt1 (mt1 (mt1 mh))))
  have cc5 := H.cell (w.heap.size) 5 (.bool (c.o 5)) (mt1 (mt1 (mt1 (mt1 (mt1 mh)))))
  have cc6 := H.cell (w.heap.size) 6 (.bool (c.o 6)) (mt1 (mt1 (mt1 (mt1 (mt1 (mt1 mh))))))
  have cc7 := H.cell (w.heap.size) 7 (.slice aR c.nr cR) (mt1 (mt1 (mt1 (mt1 (mt1 (mt1 (mt1 mh)))))))
  have cc8 := H.cell (w.heap.size) 8 (.slice aD c.nd cD) (mt8 mh)
  have lc := H.lt (w.heap.size) 0 (.bool (c.o 0)) mh
  go_wp2_with fail
  clear cc0 cc1 cc2 cc3 cc4 cc5 cc6 cc7 cc8 lc
  (with_reducible refine (next_is c aR cR aD cD n n 0 _ (H.factsW (mt8 (mt8 (mt1 (mt1 (mt1 mh)))))) MM.out (H.cal (mt8 (mt8 (mt1 (mt1 mh))))) (by omega) H1.out).mono ?_)
  rintro e w5 ⟨rfl, hb⟩
  replace H := H.below hb
  clear hb
  have cc0 := H.cell (w.heap.size) 0 (.bool (c.o 0)) mh
  have cc1 := H.cell (w.heap.size) 1 (.bool (c.o 1)) (mt1 mh)
  have cc2 := H.cell (w.heap.size) 2 (.bool (c.o 2)) (mt1 (mt1 mh))
  have cc3 := H.cell (w.heap.size) 3 (.bool (c.o 3)) (mt1 (mt1 (mt1 mh)))
  have cc4 := H.cell (w.heap.size) 4 (.bool (c.o 4)) (mt1 (mt1 (mt1 (mt1 mh))))
  have cc5 := H.cell (w.heap.size) 5 (.bool (c.o 5)) (mt1 (mt1 (mt1 (mt1 (mt1 mh)))))
  have cc6 := H.cell (w.heap.size) 6 (.bool (c.o 6)) (mt1 (mt1 (mt1 (mt1 (mt1 (mt1 mh))))))
  have cc7 := H.cell (w.heap.size) 7 (.slice aR c.nr cR) (mt1 (mt1 (mt1 (mt1 (mt1 (mt1 (mt1 mh)))))))
  have cc8 := H.cell (w.heap.size) 8 (.slice aD c.nd cD) (mt8 mh)
  have lc := H.lt (w.heap.size) 0 (.bool (c.o 0)) mh
  go_wp2_with fail
  clear cc0 cc1 cc2 cc3 cc4 cc5 cc6 cc7 cc8 lc
  (with_reducible refine (prev_is c aR cR aD cD n n 0 _ (H.factsW (mt8 (mt8 (mt1 (mt1 (mt1 mh)))))) MM.out (H.cal (mt8 (mt8 (mt1 (mt1 mh))))) (by omega) H2.out).mono ?_)
  rintro e w6 ⟨rfl, hb⟩
  replace H := H.below hb
  clear hb
  have cc0 := H.cell (w.heap.size) 0 (.bool (c.o 0)) mh
  have cc1 := H.cell (w.heap.size) 1 (.bool (c.o 1)) (mt1 mh)
  have cc2 := H.cell (w.heap.size) 2 (.bool (c.o 2)) (mt1 (mt1 mh))
  have cc3 := H.cell (w.heap.size) 3 (.bool (c.o 3)) (mt1 (mt1 (mt1 mh)))
  have cc4 := H.cell (w.heap.size) 4 (.bool (c.o 4)) (mt1 (mt1 (mt1 (mt1 mh))))
  have cc5 := H.cell (w.heap.size) 5 (.bool (c.o 5)) (mt1 (mt1 (mt1 (mt1 (mt1 mh)))))
  have cc6 := H.cell (w.heap.size) 6 (.bool (c.o 6)) (mt1 (mt1 (mt1 (mt1 (mt1 (mt1 mh))))))
  have cc7 := H.cell (w.heap.size) 7 (.slice aR c.nr cR) (mt1 (mt1 (mt1 (mt1 (mt1 (mt1 (mt1 mh)))))))
  have cc8 := H.cell (w.heap.size) 8 (.slice aD c.nd cD) (mt8 mh)
  have lc := H.lt (w.heap.size) 0 (.bool (c.o 0)) mh
  repeat' (first | simp only [List.append_eq, List.cons_append, List.nil_append] | go_values | go_skip | go_guarded | go_step | go_upon)
  clear cc0 cc1 cc2 cc3 cc4 cc5 cc6 cc7 cc8 lc
  (with_reducible refine (rcis_any c aR cR aD cD n true _ HZ.out MM.out.rules (H.cal (mt8 (mt8 (mt1 (mt1 mh))))) ⟨fun _ => HI.out, fun _ => rfl⟩).mono ?_)
  rintro e w7 ⟨rfl, hb⟩
  replace H := H.below hb
  clear hb
  have cc0 := H.cell (w.heap.size) 0 (.bool (c.o 0)) mh
  have cc1 := H.cell (w.heap.size) 1 (.bool (c.o 1)) (mt1 mh)
  have cc2 := H.cell (w.heap.size) 2 (.bool (c.o 2)) (mt1 (mt1 mh))
  have cc3 := H.cell (w.heap.size) 3 (.bool (c.o 3)) (mt1 (mt1 (mt1 mh)))
  have cc4 := H.cell (w.heap.size) 4 (.bool (c.o 4)) (mt1 (mt1 (mt1 (mt1 mh))))
  have cc5 := H.cell (w.heap.size) 5 (.bool (c.o 5)) (mt1 (mt1 (mt1 (mt1 (mt1 mh)))))
  have cc6 := H.cell (w.heap.size) 6 (.bool (c.o 6)) (mt1 (mt1 (mt1 (mt1 (mt1 (mt1 mh))))))
  have cc7 := H.cell (w.heap.size) 7 (.slice aR c.nr cR) (mt1 (mt1 (mt1 (mt1 (mt1 (mt1 (mt1 mh)))))))
  have cc8 := H.cell (w.heap.size) 8 (.slice aD c.nd cD) (mt8 mh)
  have lc := H.lt (w.heap.size) 0 (.bool (c.o 0)) mh
  repeat' (first | simp only [List.append_eq, List.cons_append, List.nil_append] | go_values | go_skip | go_guarded | go_step | go_upon)
  clear cc0 cc1 cc2 cc3 cc4 cc5 cc6 cc7 cc8 lc
  (with_reducible refine (rcis_any c aR cR aD cD n true _ HZ.out MM.out.rules (H.cal (mt8 (mt8 (mt1 (mt1 mh))))) ⟨fun _ => HI.out, fun _ => rfl⟩).mono ?_)
  rintro e w8 ⟨rfl, hb⟩
  replace H := H.below hb
  clear hb
  repeat' (first | simp only [List.append_eq, List.cons_append, List.nil_append] | go_values | go_skip | go_guarded | go_step | go_upon)
  refine wp_loop_rounds 1 ?_
  rw [rounds_succ]
  repeat' (first | simp only [List.append_eq, List.cons_append, List.nil_append] | go_values | go_skip | go_guarded | go_step | go_upon)
  refine wp_loop_rounds 1 ?_
  rw [rounds_succ]
  have cc0 := H.cell (w.heap.size) 0 (.bool (c.o 0)) mh
  have cc1 := H.cell (w.heap.size) 1 (.bool (c.o 1)) (mt1 mh)
  have cc2 := H.cell (w.heap.size) 2 (.bool (c.o 2)) (mt1 (mt1 mh))
  have cc3 := H.cell (w.heap.size) 3 (.bool (c.o 3)) (mt1 (mt1 (mt1 mh)))
  have cc4 := H.cell (w.heap.size) 4 (.bool (c.o 4)) (mt1 (mt1 (mt1 (mt1 mh))))
  have cc5 := H.cell (w.heap.size) 5 (.bool (c.o 5)) (mt1 (mt1 (mt1 (mt1 (mt1 mh)))))
  have cc6 := H.cell (w.heap.size) 6 (.bool (c.o 6)) (mt1 (mt1 (mt1 (mt1 (mt1 (mt1 mh))))))
  have cc7 := H.cell (w.heap.size) 7 (.slice aR c.nr cR) (mt1 (mt1 (mt1 (mt1 (mt1 (mt1 (mt1 mh)))))))
  have cc8 := H.cell (w.heap.size) 8 (.slice aD c.nd cD) (mt8 mh)
  have lc := H.lt (w.heap.size) 0 (.bool (c.o 0)) mh
  repeat' (first | simp only [List.append_eq, List.cons_append, List.nil_append] | go_values | go_skip | go_guarded | go_step | go_upon)
  clear cc0 cc1 cc2 cc3 cc4 cc5 cc6 cc7 cc8 lc
  (with_reducible refine (to_is14 c aR cR aD cD n (k % 5) n 0 _ (H.factsW (mt8 (mt8 (mt1 (mt1 (mt1 mh)))))) MM.out (H.cal (mt8 (mt8 (mt1 (mt1 mh))))) (by omega) H3.out).mono ?_)
  rintro e w9 ⟨rfl, hb⟩
  replace H := H.below hb
  clear hb
  have cc0 := H.cell (w.heap.size) 0 (.bool (c.o 0)) mh
  have cc1 := H.cell (w.heap.size) 1 (.bool (c.o 1)) (mt1 mh)
  have cc2 := H.cell (w.heap.size) 2 (.bool (c.o 2)) (mt1 (mt1 mh))
  have cc3 := H.cell (w.heap.size) 3 (.bool (c.o 3)) (mt1 (mt1 (mt1 mh)))
  have cc4 := H.cell (w.heap.size) 4 (.bool (c.o 4)) (mt1 (mt1 (mt1 (mt1 mh))))
  have cc5 := H.cell (w.heap.size) 5 (.bool (c.o 5)) (mt1 (mt1 (mt1 (mt1 (mt1 mh)))))
  have cc6 := H.cell (w.heap.size) 6 (.bool (c.o 6)) (mt1 (mt1 (mt1 (mt1 (mt1 (mt1 mh))))))
  have cc7 := H.cell (w.heap.size) 7 (.slice aR c.nr cR) (mt1 (mt1 (mt1 (mt1 (mt1 (mt1 (mt1 mh)))))))
  have cc8 := H.cell (w.heap.size) 8 (.slice aD c.nd cD) (mt8 mh)
  have lc := H.lt (w.heap.size) 0 (.bool (c.o 0)) mh
  repeat' (first | simp only [List.append_eq, List.cons_append, List.nil_append] | go_values | go_skip | go_guarded | go_step | go_upon)
  clear cc0 cc1 cc2 cc3 cc4 cc5 cc6 cc7 cc8 lc
  (with_reducible refine (rcis_any c aR cR aD cD n true _ HZ.out MM.out.rules (H.cal (mt8 (mt8 (mt1 (mt1 mh))))) ⟨fun _ => HI.out, fun _ => rfl⟩).mono ?_)
  rintro e w10 ⟨rfl, hb⟩
  replace H := H.below hb
  clear hb
  repeat' (first | simp only [List.append_eq, List.cons_append, List.nil_append] | go_values | go_skip | go_guarded | go_step | go_upon)
  go_ret
  exact ⟨rfl, H.old⟩

set_option maxHeartbeats 8000000 in
set_option maxRecDepth 100000 in
theorem ronear_00 (c : Ca) (aR : Option Addr) (cR : Nat) (aD : Option Addr) (cD : Nat) (n k x g : Int) (ka : Nat) (kb : Nat) (w : World) (hL : FactsW w) (hCc : CalAt w c aR cR aD cD) (bk : 0 ≤ k ∧ k < 256) (hf : decide (c.nr ≤ 12 ∧ c.nd ≤ 60) = true) (hS : c.Small) (hM : c.May) (hd : decide (1 ≤ n ∧ n ≤ 3652059) = true) (nb : 1 ≤ n ∧ n ≤ 3652059) (hi : ¬ c.Is n) (h1 : StepIs c 1 n (n + ka) 0) (h2 : StepIs c (-1) n (n - kb) 0) (h3 : ToIs c n (k % 5) x g) (ua : 1 ≤ ka ∧ ka ≤ 60) (ia : c.Is (n + ka)) (hu : ∀ l : Nat, l < ka → ¬ c.Is (n + l)) (ub : 1 ≤ kb ∧ kb ≤ 60 ∧ (kb : Int) < n) (ib : c.Is (n - kb)) (hv : ∀ l : Nat, l < kb → ¬ c.Is (n - l)) (hx : (g ≠ 0) ∨ (g = 0 ∧ k % 5 = 0 ∧ x = n) ∨ (g = 0 ∧ x = n + ka) ∨ (g = 0 ∧ x = n - kb)) :
    Calls Tryd.prog 4 #[.agg #[.bool (c.o 0), .bool (c.o 1), .bool (c.o 2), .bool (c.o 3), .bool (c.o 4), .bool (c.o 5), .bool (c.o 6), .slice aR c.nr cR, .slice aD c.nd cD], .int .i64 n, .int .u8 k] w fun e w' => e = .returned (.bool true) ∧ Below w.heap.size w w' := by
  have H := ((Held.start w).add (f := factsWF) hL).add (f := calF c aR cR aD cD) hCc
  clear hL hCc
  have HF := Lib.hid hf
  have HZ := Lib.hid hS
  have MM := Lib.hid hM
  have HD := Lib.hid hd
  have HI := Lib.hid hi
  have H1 := Lib.hid h1
  have H2 := Lib.hid h2
  have H3 := Lib.hid h3
  have IA := Lib.hid ia
  have HU := Lib.hid hu
  have IB := Lib.hid ib
  have HV := Lib.hid hv
  have HX := Lib.hid hx
  clear hf hS hM hd hi h1 h2 h3 ia hu ib hv hx
  go_enter Tryd.func4, Tryd.ntmps4
  go_wp2_with fail
  replace H := (H.box_9 (w.heap.size) (.bool (c.o 0)) (.bool (c.o 1)) (.bool (c.o 2)) (.bool (c.o 3)) (.bool (c.o 4)) (.bool (c.o 5)) (.bool (c.o 6)) (.slice aR c.nr cR) (.slice aD c.nd cD) 26 rfl)
  (with_reducible refine (roshown_any _ (H.factsW (mt8 (mt8 (mt1 (mt1 (mt1 mh))))))).mono ?_)
  rintro e w1 ⟨rfl, hb⟩
  replace H := H.below hb
  clear hb
  have cc0 := H.cell (w.heap.size) 0 (.bool (c.o 0)) mh
  have cc1 := H.cell (w.heap.size) 1 (.bool (c.o 1)) (mt1 mh)
  have cc2 := H.cell (w.heap.size) 2 (.bool (c.o 2)) (mt1 (mt1 mh))
  have cc3 := H.cell (w.heap.size) 3 (.bool (c.o 3)) (mt1 (mt1 (mt1 mh)))
  have cc4 := H.cell (w.heap.size) 4 (.bool (c.o 4)) (mt1 (mt1 (mt1 (mt1 mh))))
  have cc5 := H.cell (w.heap.size) 5 (.bool (c.o 5)) (mt1 (mt1 (mt1 (mt1 (mt1 mh)))))
  have cc6 := H.cell (w.heap.size) 6 (.bool (c.o 6)) (mt1 (mt1 (mt1 (mt1 (mt1 (mt1 mh))))))
  have cc7 := H.cell (w.heap.size) 7 (.slice aR c.nr cR) (mt1 (mt1 (mt1 (mt1 (mt1 (mt1 (mt1 mh)))))))
  have cc8 := H.cell (w.heap.size) 8 (.slice aD c.nd cD) (mt8 mh)
  have lc := H.lt (w.heap.size) 0 (.bool (c.o 0)) mh
  go_wp2_with fail
  clear cc0 cc1 cc2 cc3 cc4 cc5 cc6 cc7 cc8 lc
  (with_reducible refine (few_any c aR cR aD cD true _ HF.out).mono ?_)
  rintro e w2 ⟨rfl, hb⟩
  replace H := H.below hb
  clear hb
  have cc0 := H.cell (w.heap.size) 0 (.bool (c.o 0)) mh
  have cc1 := H.cell (w.heap.size) 1 (.bool (c.o 1)) (mt1 mh)
  have cc2 := H.cell (w.heap.size) 2 (.bool (c.o 2)) (mt1 (mt1 mh))
  have cc3 := H.cell (w.heap.size) 3 (.bool (c.o 3)) (mt1 (mt1 (mt1 mh)))
  have cc4 := H.cell (w.heap.size) 4 (.bool (c.o 4)) (mt1 (mt1 (mt1 (mt1 mh))))
  have cc5 := H.cell (w.heap.size) 5 (.bool (c.o 5)) (mt1 (mt1 (mt1 (mt1 (mt1 mh)))))
  have cc6 := H.cell (w.heap.size) 6 (.bool (c.o 6)) (mt1 (mt1 (mt1 (mt1 (mt1 (mt1 mh))))))
  have cc7 := H.cell (w.heap.size) 7 (.slice aR c.nr cR) (mt1 (mt1 (mt1 (mt1 (mt1 (mt1 (mt1 mh)))))))
  have cc8 := H.cell (w.heap.size) 8 (.slice aD c.nd cD) (mt8 mh)
  have lc := H.lt (w.heap.size) 0 (.bool (c.o 0)) mh
  go_wp2_with fail
  clear cc0 cc1 cc2 cc3 cc4 cc5 cc6 cc7 cc8 lc
  (with_reducible refine (rcmay_any c aR cR aD cD true _ HZ.out (H.cal (mt8 (mt8 (mt1 (mt1 mh))))) ⟨fun _ => MM.out, fun _ => rfl⟩).mono ?_)
  rintro e w3 ⟨rfl, hb⟩
  replace H := H.below hb
  clear hb
  have cc0 := H.cell (w.heap.size) 0 (.bool (c.o 0)) mh
  have cc1 := H.cell (w.heap.size) 1 (.bool (c.o 1)) (mt1 mh)
  have cc2 := H.cell (w.heap.size) 2 (.bool (c.o 2)) (mt1 (mt1 mh))
  have cc3 := H.cell (w.heap.size) 3 (.bool (c.o 3)) (mt1 (mt1 (mt1 mh)))
  have cc4 := H.cell (w.heap.size) 4 (.bool (c.o 4)) (mt1 (mt1 (mt1 (mt1 mh))))
  have cc5 := H.cell (w.heap.size) 5 (.bool (c.o 5)) (mt1 (mt1 (mt1 (mt1 (mt1 mh)))))
  have cc6 := H.cell (w.heap.size) 6 (.bool (c.o 6)) (mt1 (mt1 (mt1 (mt1 (mt1 (mt1 mh))))))
  have cc7 := H.cell (w.heap.size) 7 (.slice aR c.nr cR) (mt1 (mt1 (mt1 (mt1 (mt1 (mt1 (mt1 mh)))))))
  have cc8 := H.cell (w.heap.size) 8 (.slice aD c.nd cD) (mt8 mh)
  have lc := H.lt (w.heap.size) 0 (.bool (c.o 0)) mh
  go_wp2_with fail
  clear cc0 cc1 cc2 cc3 cc4 cc5 cc6 cc7 cc8 lc
  (with_reducible refine (Calls.same (rday13_is n true _ HD.out)).mono ?_)
  rintro e w4 ⟨rfl, hb⟩
  replace H := H.below hb
  clear hb
  have cc0 := H.cell (w.heap.size) 0 (.bool (c.o 0)) mh
  have cc1 := H.cell (w.heap.size) 1 (.bool (c.o 1)) (mt1 mh)
  have cc2 := H.cell (w.heap.size) 2 (.bool (c.o 2)) (mt1 (mt1 mh))
  have cc3 := H.cell (w.heap.size) 3 (.bool (c.o 3)) (mt1 (mt1 (mt1 mh)))
  have cc4 := H.cell (w.heap.size) 4 (.bool (c.o 4)) (mt1 (mt1 (mt1 (mt1 mh))))
  have cc5 := H.cell (w.heap.size) 5 (.bool (c.o 5)) (mt1 (mt1 (mt1 (mt1 (mt1 mh)))))
  have cc6 := H.cell (w.heap.size) 6 (.bool (c.o 6)) (mt1 (mt1 (mt1 (mt1 (mt1 (mt1 mh))))))
  have cc7 := H.cell (w.heap.size) 7 (.slice aR c.nr cR) (mt1 (mt1 (mt1 (mt1 (mt1 (mt1 (mt1 mh)))))))
  have cc8 := H.cell (w.heap.size) 8 (.slice aD c.nd cD) (mt8 mh)
  have lc := H.lt (w.heap.size) 0 (.bool (c.o 0)) mh
  go_wp2_with fail
  clear cc0 cc1 cc2 cc3 cc4 cc5 cc6 cc7 cc8 lc
  (with_reducible refine (next_is c aR cR aD cD n (n + ka) 0 _ (H.factsW (mt8 (mt8 (mt1 (mt1 (mt1 mh)))))) MM.out (H.cal (mt8 (mt8 (mt1 (mt1 mh))))) (by omega) H1.out).mono ?_)
  rintro e w5 ⟨rfl, hb⟩
  replace H := H.below hb
  clear hb
  have cc0 := H.cell (w.heap.size) 0 (.bool (c.o 0)) mh
  have cc1 := H.cell (w.heap.size) 1 (.bool (c.o 1)) (mt1 mh)
  have cc2 := H.cell (w.heap.size) 2 (.bool (c.o 2)) (mt1 (mt1 mh))
  have cc3 := H.cell (w.heap.size) 3 (.bool (c.o 3)) (mt1 (mt1 (mt1 mh)))
  have cc4 := H.cell (w.heap.size) 4 (.bool (c.o 4)) (mt1 (mt1 (mt1 (mt1 mh))))
  have cc5 := H.cell (w.heap.size) 5 (.bool (c.o 5)) (mt1 (mt1 (mt1 (mt1 (mt1 mh)))))
  have cc6 := H.cell (w.heap.size) 6 (.bool (c.o 6)) (mt1 (mt1 (mt1 (mt1 (mt1 (mt1 mh))))))
  have cc7 := H.cell (w.heap.size) 7 (.slice aR c.nr cR) (mt1 (mt1 (mt1 (mt1 (mt1 (mt1 (mt1 mh)))))))
  have cc8 := H.cell (w.heap.size) 8 (.slice aD c.nd cD) (mt8 mh)
  have lc := H.lt (w.heap.size) 0 (.bool (c.o 0)) mh
  go_wp2_with fail
  clear cc0 cc1 cc2 cc3 cc4 cc5 cc6 cc7 cc8 lc
  (with_reducible refine (prev_is c aR cR aD cD n (n - kb) 0 _ (H.factsW (mt8 (mt8 (mt1 (mt1 (mt1 mh)))))) MM.out (H.cal (mt8 (mt8 (mt1 (mt1 mh))))) (by omega) H2.out).mono ?_)
  rintro e w6 ⟨rfl, hb⟩
  replace H := H.below hb
  clear hb
  have cc0 := H.cell (w.heap.size) 0 (.bool (c.o 0)) mh
  have cc1 := H.cell (w.heap.size) 1 (.bool (c.o 1)) (mt1 mh)
  have cc2 := H.cell (w.heap.size) 2 (.bool (c.o 2)) (mt1 (mt1 mh))
  have cc3 := H.cell (w.heap.size) 3 (.bool (c.o 3)) (mt1 (mt1 (mt1 mh)))
  have cc4 := H.cell (w.heap.size) 4 (.bool (c.o 4)) (mt1 (mt1 (mt1 (mt1 mh))))
  have cc5 := H.cell (w.heap.size) 5 (.bool (c.o 5)) (mt1 (mt1 (mt1 (mt1 (mt1 mh)))))
  have cc6 := H.cell (w.heap.size) 6 (.bool (c.o 6)) (mt1 (mt1 (mt1 (mt1 (mt1 (mt1 mh))))))
  have cc7 := H.cell (w.heap.size) 7 (.slice aR c.nr cR) (mt1 (mt1 (mt1 (mt1 (mt1 (mt1 (mt1 mh)))))))
  have cc8 := H.cell (w.heap.size) 8 (.slice aD c.nd cD) (mt8 mh)
  have lc := H.lt (w.heap.size) 0 (.bool (c.o 0)) mh
  repeat' (first | simp only [List.append_eq, List.cons_append, List.nil_append] | go_values | go_skip | go_guarded | go_step | go_upon)
  clear cc0 cc1 cc2 cc3 cc4 cc5 cc6 cc7 cc8 lc
  (with_reducible refine (rcis_any c aR cR aD cD (n + ka) true _ HZ.out MM.out.rules (H.cal (mt8 (mt8 (mt1 (mt1 mh))))) ⟨fun _ => IA.out, fun _ => rfl⟩).mono ?_)
  rintro e w7 ⟨rfl, hb⟩
  replace H := H.below hb
  clear hb
  have cc0 := H.cell (w.heap.size) 0 (.bool (c.o 0)) mh
  have cc1 := H.cell (w.heap.size) 1 (.bool (c.o 1)) (mt1 mh)
  have cc2 := H.cell (w.heap.size) 2 (.bool (c.o 2)) (mt1 (mt1 mh))
  have cc3 := H.cell (w.heap.size) 3 (.bool (c.o 3)) (mt1 (mt1 (mt1 mh)))
  have cc4 := H.cell (w.heap.size) 4 (.bool (c.o 4)) (mt1 (mt1 (mt1 (mt1 mh))))
  have cc5 := H.cell (w.heap.size) 5 (.bool (c.o 5)) (mt1 (mt1 (mt1 (mt1 (mt1 mh)))))
  have cc6 := H.cell (w.heap.size) 6 (.bool (c.o 6)) (mt1 (mt1 (mt1 (mt1 (mt1 (mt1 mh))))))
  have cc7 := H.cell (w.heap.size) 7 (.slice aR c.nr cR) (mt1 (mt1 (mt1 (mt1 (mt1 (mt1 (mt1 mh)))))))
  have cc8 := H.cell (w.heap.size) 8 (.slice aD c.nd cD) (mt8 mh)
  have lc := H.lt (w.heap.size) 0 (.bool (c.o 0)) mh
  repeat' (first | simp only [List.append_eq, List.cons_append, List.nil_append] | go_values | go_skip | go_guarded | go_step | go_upon)
  clear cc0 cc1 cc2 cc3 cc4 cc5 cc6 cc7 cc8 lc
  (with_reducible refine (rcis_any c aR cR aD cD (n - kb) true _ HZ.out MM.out.rules (H.cal (mt8 (mt8 (mt1 (mt1 mh))))) ⟨fun _ => IB.out, fun _ => rfl⟩).mono ?_)
  rintro e w8 ⟨rfl, hb⟩
  replace H := H.below hb
  clear hb
  repeat' (first | simp only [List.append_eq, List.cons_append, List.nil_append] | go_values | go_skip | go_guarded | go_step | go_upon)
  go_loopw [12] (fun i W' => ∃ (j : Nat), j ≤ ka ∧ i = .int .i64 (n + j) ∧ Held w [.cell (w.heap.size) 0 (.bool (c.o 0)), .cell (w.heap.size) 1 (.bool (c.o 1)), .cell (w.heap.size) 2 (.bool (c.o 2)), .cell (w.heap.size) 3 (.bool (c.o 3)), .cell (w.heap.size) 4 (.bool (c.o 4)), .cell (w.heap.size) 5 (.bool (c.o 5)), .cell (w.heap.size) 6 (.bool (c.o 6)), .cell (w.heap.size) 7 (.slice aR c.nr cR), .cell (w.heap.size) 8 (.slice aD c.nd cD), .free (w.heap.size) 0, .free (w.heap.size) 1, .free (w.heap.size) 2, .free (w.heap.size) 3, .free (w.heap.size) 4, .free (w.heap.size) 5, .free (w.heap.size) 6, .free (w.heap.size) 7, .free (w.heap.size) 8, calF c aR cR aD cD, factsWF] W') (fun i _ => (ka - ((intOf i - n).toNat) : Nat))
  case atStart => exact ⟨0, by omega, by simp, H⟩
  case round =>
    clear H
    obtain ⟨j, j1, rfl, H⟩ := hrel
    by_cases hj : j < ka
    · have Q := Lib.hid (fun v (k : CalAt v c aR cR aD cD) => rcis_any c aR cR aD cD (n + j) false v HZ.out MM.out.rules k ⟨fun g => absurd g (by decide), fun g => absurd g (HU.out j hj)⟩)
      have cc0 := H.cell (w.heap.size) 0 (.bool (c.o 0)) mh
      have cc1 := H.cell (w.heap.size) 1 (.bool (c.o 1)) (mt1 mh)
      have cc2 := H.cell (w.heap.size) 2 (.bool (c.o 2)) (mt1 (mt1 mh))
      have cc3 := H.cell (w.heap.size) 3 (.bool (c.o 3)) (mt1 (mt1 (mt1 mh)))
      have cc4 := H.cell (w.heap.size) 4 (.bool (c.o 4)) (mt1 (mt1 (mt1 (mt1 mh))))
      have cc5 := H.cell (w.heap.size) 5 (.bool (c.o 5)) (mt1 (mt1 (mt1 (mt1 (mt1 mh)))))
      have cc6 := H.cell (w.heap.size) 6 (.bool (c.o 6)) (mt1 (mt1 (mt1 (mt1 (mt1 (mt1 mh))))))
      have cc7 := H.cell (w.heap.size) 7 (.slice aR c.nr cR) (mt1 (mt1 (mt1 (mt1 (mt1 (mt1 (mt1 mh)))))))
      have cc8 := H.cell (w.heap.size) 8 (.slice aD c.nd cD) (mt8 mh)
      have lc := H.lt (w.heap.size) 0 (.bool (c.o 0)) mh
      repeat' (first | simp only [List.append_eq, List.cons_append, List.nil_append] | go_values | go_skip | go_guarded | go_step | go_upon)
      clear cc0 cc1 cc2 cc3 cc4 cc5 cc6 cc7 cc8 lc
      (with_reducible refine (Q.out _ (H.cal (mt8 (mt8 (mt1 (mt1 mh)))))).mono ?_)
      rintro e wl ⟨rfl, hb⟩
      replace H := H.below hb
      clear hb Q
      repeat' (first | simp only [List.append_eq, List.cons_append, List.nil_append] | go_values | go_skip | go_guarded | go_step | go_upon)
      go_roundw
      case rel => exact ⟨j + 1, by omega, by simp only [Value.int.injEq, true_and]; omega, H⟩
      case measure => simp [intOf]; omega
    · obtain rfl : ka = j := by omega
      have cc0 := H.cell (w.heap.size) 0 (.bool (c.o 0)) mh
      have cc1 := H.cell (w.heap.size) 1 (.bool (c.o 1)) (mt1 mh)
      have cc2 := H.cell (w.heap.size) 2 (.bool (c.o 2)) (mt1 (mt1 mh))
      have cc3 := H.cell (w.heap.size) 3 (.bool (c.o 3)) (mt1 (mt1 (mt1 mh)))
      have cc4 := H.cell (w.heap.size) 4 (.bool (c.o 4)) (mt1 (mt1 (mt1 (mt1 mh))))
      have cc5 := H.cell (w.heap.size) 5 (.bool (c.o 5)) (mt1 (mt1 (mt1 (mt1 (mt1 mh)))))
      have cc6 := H.cell (w.heap.size) 6 (.bool (c.o 6)) (mt1 (mt1 (mt1 (mt1 (mt1 (mt1 mh))))))
      have cc7 := H.cell (w.heap.size) 7 (.slice aR c.nr cR) (mt1 (mt1 (mt1 (mt1 (mt1 (mt1 (mt1 mh)))))))
      have cc8 := H.cell (w.heap.size) 8 (.slice aD c.nd cD) (mt8 mh)
      have lc := H.lt (w.heap.size) 0 (.bool (c.o 0)) mh
      repeat' (first | simp only [List.append_eq, List.cons_append, List.nil_append] | go_values | go_skip | go_guarded | go_step | go_upon)
      clear cc0 cc1 cc2 cc3 cc4 cc5 cc6 cc7 cc8 lc
      go_loopw [13] (fun i W' => ∃ (j : Nat), j ≤ kb ∧ i = .int .i64 (n - j) ∧ Held w [.cell (w.heap.size) 0 (.bool (c.o 0)), .cell (w.heap.size) 1 (.bool (c.o 1)), .cell (w.heap.size) 2 (.bool (c.o 2)), .cell (w.heap.size) 3 (.bool (c.o 3)), .cell (w.heap.size) 4 (.bool (c.o 4)), .cell (w.heap.size) 5 (.bool (c.o 5)), .cell (w.heap.size) 6 (.bool (c.o 6)), .cell (w.heap.size) 7 (.slice aR c.nr cR), .cell (w.heap.size) 8 (.slice aD c.nd cD), .free (w.heap.size) 0, .free (w.heap.size) 1, .free (w.heap.size) 2, .free (w.heap.size) 3, .free (w.heap.size) 4, .free (w.heap.size) 5, .free (w.heap.size) 6, .free (w.heap.size) 7, .free (w.heap.size) 8, calF c aR cR aD cD, factsWF] W') (fun i _ => (kb - ((n - intOf i).toNat) : Nat))
      case atStart => exact ⟨0, by omega, by simp, H⟩
      case round =>
        clear H
        obtain ⟨j, j1, rfl, H⟩ := hrel
        by_cases hj : j < kb
        · have Q := Lib.hid (fun v (k : CalAt v c aR cR aD cD) => rcis_any c aR cR aD cD (n - j) false v HZ.out MM.out.rules k ⟨fun g => absurd g (by decide), fun g => absurd g (HV.out j hj)⟩)
          have cc0 := H.cell (w.heap.size) 0 (.bool (c.o 0)) mh
          have cc1 := H.cell (w.heap.size) 1 (.bool (c.o 1)) (mt1 mh)
          have cc2 := H.cell (w.heap.size) 2 (.bool (c.o 2)) (mt1 (mt1 mh))
          have cc3 := H.cell (w.heap.size) 3 (.bool (c.o 3)) (mt1 (mt1 (mt1 mh)))
          have cc4 := H.cell (w.heap.size) 4 (.bool (c.o 4)) (mt1 (mt1 (mt1 (mt1 mh))))
          have cc5 := H.cell (w.heap.size) 5 (.bool (c.o 5)) (mt1 (mt1 (mt1 (mt1 (mt1 mh)))))
          have cc6 := H.cell (w.heap.size) 6 (.bool (c.o 6)) (mt1 (mt1 (mt1 (mt1 (mt1 (mt1 mh))))))
          have cc7 := H.cell (w.heap.size) 7 (.slice aR c.nr cR) (mt1 (mt1 (mt1 (mt1 (mt1 (mt1 (mt1 mh)))))))
          have cc8 := H.cell (w.heap.size) 8 (.slice aD c.nd cD) (mt8 mh)
          have lc := H.lt (w.heap.size) 0 (.bool (c.o 0)) mh
          repeat' (first | simp only [List.append_eq, List.cons_append, List.nil_append] | go_values | go_skip | go_guarded | go_step | go_upon)
          clear cc0 cc1 cc2 cc3 cc4 cc5 cc6 cc7 cc8 lc
          (with_reducible refine (Q.out _ (H.cal (mt8 (mt8 (mt1 (mt1 mh)))))).mono ?_)
          rintro e wl ⟨rfl, hb⟩
          replace H := H.below hb
          clear hb Q
          repeat' (first | simp only [List.append_eq, List.cons_append, List.nil_append] | go_values | go_skip | go_guarded | go_step | go_upon)
          go_roundw
          case rel => exact ⟨j + 1, by omega, by simp only [Value.int.injEq, true_and]; omega, H⟩
          case measure => simp [intOf]; omega
        · obtain rfl : kb = j := by omega
          have cc0 := H.cell (w.heap.size) 0 (.bool (c.o 0)) mh
          have cc1 := H.cell (w.heap.size) 1 (.bool (c.o 1)) (mt1 mh)
          have cc2 := H.cell (w.heap.size) 2 (.bool (c.o 2)) (mt1 (mt1 mh))
          have cc3 := H.cell (w.heap.size) 3 (.bool (c.o 3)) (mt1 (mt1 (mt1 mh)))
          have cc4 := H.cell (w.heap.size) 4 (.bool (c.o 4)) (mt1 (mt1 (mt1 (mt1 mh))))
          have cc5 := H.cell (w.heap.size) 5 (.bool (c.o 5)) (mt1 (mt1 (mt1 (mt1 (mt1 mh)))))
          have cc6 := H.cell (w.heap.size) 6 (.bool (c.o 6)) (mt1 (mt1 (mt1 (mt1 (mt1 (mt1 mh))))))
          have cc7 := H.cell (w.heap.size) 7 (.slice aR c.nr cR) (mt1 (mt1 (mt1 (mt1 (mt1 (mt1 (mt1 mh)))))))
          have cc8 := H.cell (w.heap.size) 8 (.slice aD c.nd cD) (mt8 mh)
          have lc := H.lt (w.heap.size) 0 (.bool (c.o 0)) mh
          repeat' (first | simp only [List.append_eq, List.cons_append, List.nil_append] | go_values | go_skip | go_guarded | go_step | go_upon)
          clear cc0 cc1 cc2 cc3 cc4 cc5 cc6 cc7 cc8 lc
          (with_reducible refine (to_is14 c aR cR aD cD n (k % 5) x g _ (H.factsW (mt8 (mt8 (mt1 (mt1 (mt1 mh)))))) MM.out (H.cal (mt8 (mt8 (mt1 (mt1 mh))))) (by omega) H3.out).mono ?_)
          rintro e w9 ⟨rfl, hb⟩
          replace H := H.below hb
          clear hb
          have cc0 := H.cell (w.heap.size) 0 (.bool (c.o 0)) mh
          have cc1 := H.cell (w.heap.size) 1 (.bool (c.o 1)) (mt1 mh)
          have cc2 := H.cell (w.heap.size) 2 (.bool (c.o 2)) (mt1 (mt1 mh))
          have cc3 := H.cell (w.heap.size) 3 (.bool (c.o 3)) (mt1 (mt1 (mt1 mh)))
          have cc4 := H.cell (w.heap.size) 4 (.bool (c.o 4)) (mt1 (mt1 (mt1 (mt1 mh))))
          have cc5 := H.cell (w.heap.size) 5 (.bool (c.o 5)) (mt1 (mt1 (mt1 (mt1 (mt1 mh)))))
          have cc6 := H.cell (w.heap.size) 6 (.bool (c.o 6)) (mt1 (mt1 (mt1 (mt1 (mt1 (mt1 mh))))))
          have cc7 := H.cell (w.heap.size) 7 (.slice aR c.nr cR) (mt1 (mt1 (mt1 (mt1 (mt1 (mt1 (mt1 mh)))))))
          have cc8 := H.cell (w.heap.size) 8 (.slice aD c.nd cD) (mt8 mh)
          have lc := H.lt (w.heap.size) 0 (.bool (c.o 0)) mh
          repeat' (first | simp only [List.append_eq, List.cons_append, List.nil_append] | go_values | go_skip | go_guarded | go_step | go_upon)
          clear cc0 cc1 cc2 cc3 cc4 cc5 cc6 cc7 cc8 lc
          (with_reducible refine (rcis_any c aR cR aD cD n false _ HZ.out MM.out.rules (H.cal (mt8 (mt8 (mt1 (mt1 mh))))) ⟨fun g => absurd g (by decide), fun g => absurd g HI.out⟩).mono ?_)
          rintro e w10 ⟨rfl, hb⟩
          replace H := H.below hb
          clear hb
          rcases HX.out with gz | ⟨rfl, xk, rfl⟩ | ⟨rfl, xa⟩ | ⟨rfl, xb⟩
          · have y1 : (g != 0) = true := by simpa using gz
            repeat' (first | simp only [List.append_eq, List.cons_append, List.nil_append] | go_values | go_skip | go_guarded | go_step | go_upon)
            go_ret
            exact ⟨rfl, H.old⟩
          · have y1 : (k % 5 == 0) = true := by simpa using xk
            repeat' (first | simp only [List.append_eq, List.cons_append, List.nil_append] | go_values | go_skip | go_guarded | go_step | go_upon)
            go_ret
            exact ⟨rfl, H.old⟩
          · have y1 : (x == n) = false := by simp; omega
            have y2 : (x == n + ka) = true := by simpa using xa
            repeat' (first | simp only [List.append_eq, List.cons_append, List.nil_append] | go_values | go_skip | go_guarded | go_step | go_upon)
            go_ret
            exact ⟨rfl, H.old⟩
          · have y1 : (x == n) = false := by simp; omega
            have y2 : (x == n + ka) = false := by simp; omega
            have y3 : (x == n - kb) = true := by simpa using xb
            repeat' (first | simp only [List.append_eq, List.cons_append, List.nil_append] | go_values | go_skip | go_guarded | go_step | go_upon)
            go_ret
            exact ⟨rfl, H.old⟩

set_option maxHeartbeats 8000000 in
set_option maxRecDepth 100000 in
theorem ronear_01 (c : Ca) (aR : Option Addr) (cR : Nat) (aD : Option Addr) (cD : Nat) (n k x g f : Int) (ka : Nat) (w : World) (hL : FactsW w) (hCc : CalAt w c aR cR aD cD) (bk : 0 ≤ k ∧ k < 256) (hf : decide (c.nr ≤ 12 ∧ c.nd ≤ 60) = true) (hS : c.Small) (hM : c.May) (hd : decide (1 ≤ n ∧ n ≤ 3652059) = true) (nb : 1 ≤ n ∧ n ≤ 3652059) (hi : ¬ c.Is n) (h1 : StepIs c 1 n (n + ka) 0) (h2 : StepIs c (-1) n 0 f) (h3 : ToIs c n (k % 5) x g) (kf : (f == 0) = false) (ua : 1 ≤ ka ∧ ka ≤ 60) (ia : c.Is (n + ka)) (hu : ∀ l : Nat, l < ka → ¬ c.Is (n + l)) (hx : (g ≠ 0) ∨ (g = 0 ∧ k % 5 = 0 ∧ x = n) ∨ (g = 0 ∧ x = n + ka)) :
    Calls Tryd.prog 4 #[.agg #[.bool (c.o 0), .bool (c.o 1), .bool (c.o 2), .bool (c.o 3), .bool (c.o 4), .bool (c.o 5), .bool (c.o 6), .slice aR c.nr cR, .slice aD c.nd cD], .int .i64 n, .int .u8 k] w fun e w' => e = .returned (.bool true) ∧ Below w.heap.size w w' := by
  have H := ((Held.start w).add (f := factsWF) hL).add (f := calF c aR cR aD cD) hCc
  clear hL hCc
  have zf : (f != 0) = true := by simpa using kf
  have HF := Lib.hid hf
  have HZ := Lib.hid hS
  have MM := Lib.hid hM
  have HD := Lib.hid hd
  have HI := Lib.hid hi
  have H1 := Lib.hid h1
  have H2 := Lib.hid h2
  have H3 := Lib.hid h3
  have IA := Lib.hid ia
  have HU := Lib.hid hu
  have HX := Lib.hid hx
  clear hf hS hM hd hi h1 h2 h3 ia hu hx
  go_enter Tryd.func4, Tryd.ntmps4
  go_wp2_with fail
  replace H := (H.box_9 (w.heap.size) (.bool (c.o 0)) (.bool (c.o 1)) (.bool (c.o 2)) (.bool (c.o 3)) (.bool (c.o 4)) (.bool (c.o 5)) (.bool (c.o 6)) (.slice aR c.nr cR) (.slice aD c.nd cD) 26 rfl)
  (with_reducible refine (roshown_any _ (H.factsW (mt8 (mt8 (mt1 (mt1 (mt1 mh))))))).mono ?_)
  rintro e w1 ⟨rfl, hb⟩
  replace H := H.below hb
  clear hb
  have cc0 := H.cell (w.heap.size) 0 (.bool (c.o 0)) mh
  have cc1 := H.cell (w.heap.size) 1 (.bool (c.o 1)) (mt1 mh)
  have cc2 := H.cell (w.heap.size) 2 (.bool (c.o 2)) (mt1 (mt1 mh))
  have cc3 := H.cell (w.heap.size) 3 (.bool (c.o 3)) (mt1 (mt1 (mt1 mh)))
  have cc4 := H.cell (w.heap.size) 4 (.bool (c.o 4)) (mt1 (mt1 (mt1 (mt1 mh))))
  have cc5 := H.cell (w.heap.size) 5 (.bool (c.o 5)) (mt1 (mt1 (mt1 (mt1 (mt1 mh)))))
  have cc6 := H.cell (w.heap.size) 6 (.bool (c.o 6)) (mt1 (mt1 (mt1 (mt1 (mt1 (mt1 mh))))))
  have cc7 := H.cell (w.heap.size) 7 (.slice aR c.nr cR) (mt1 (mt1 (mt1 (mt1 (mt1 (mt1 (mt1 mh)))))))
  have cc8 := H.cell (w.heap.size) 8 (.slice aD c.nd cD) (mt8 mh)
  have lc := H.lt (w.heap.size) 0 (.bool (c.o 0)) mh
  go_wp2_with fail
  clear cc0 cc1 cc2 cc3 cc4 cc5 cc6 cc7 cc8 lc
  (with_reducible refine (few_any c aR cR aD cD true _ HF.out).mono ?_)
  rintro e w2 ⟨rfl, hb⟩
  replace H := H.below hb
  clear hb
  have cc0 := H.cell (w.heap.size) 0 (.bool (c.o 0)) mh
  have cc1 := H.cell (w.heap.size) 1 (.bool (c.o 1)) (mt1 mh)
  have cc2 := H.cell (w.heap.size) 2 (.bool (c.o 2)) (mt1 (mt1 mh))
  have cc3 := H.cell (w.heap.size) 3 (.bool (c.o 3)) (mt1 (mt1 (mt1 mh)))
  have cc4 := H.cell (w.heap.size) 4 (.bool (c.o 4)) (mt1 (mt1 (mt1 (mt1 mh))))
  have cc5 := H.cell (w.heap.size) 5 (.bool (c.o 5)) (mt1 (mt1 (mt1 (mt1 (mt1 mh)))))
  have cc6 := H.cell (w.heap.size) 6 (.bool (c.o 6)) (mt1 (mt1 (mt1 (mt1 (mt1 (mt1 mh))))))
  have cc7 := H.cell (w.heap.size) 7 (.slice aR c.nr cR) (mt1 (mt1 (mt1 (mt1 (mt1 (mt1 (mt1 mh)))))))
  have cc8 := H.cell (w.heap.size) 8 (.slice aD c.nd cD) (mt8 mh)
  have lc := H.lt (w.heap.size) 0 (.bool (c.o 0)) mh
  go_wp2_with fail
  clear cc0 cc1 cc2 cc3 cc4 cc5 cc6 cc7 cc8 lc
  (with_reducible refine (rcmay_any c aR cR aD cD true _ HZ.out (H.cal (mt8 (mt8 (mt1 (mt1 mh))))) ⟨fun _ => MM.out, fun _ => rfl⟩).mono ?_)
  rintro e w3 ⟨rfl, hb⟩
  replace H := H.below hb
  clear hb
  have cc0 := H.cell (w.heap.size) 0 (.bool (c.o 0)) mh
  have cc1 := H.cell (w.heap.size) 1 (.bool (c.o 1)) (mt1 mh)
  have cc2 := H.cell (w.heap.size) 2 (.bool (c.o 2)) (mt1 (mt1 mh))
  have cc3 := H.cell (w.heap.size) 3 (.bool (c.o 3)) (mt1 (mt1 (mt1 mh)))
  have cc4 := H.cell (w.heap.size) 4 (.bool (c.o 4)) (mt1 (mt1 (mt1 (mt1 mh))))
  have cc5 := H.cell (w.heap.size) 5 (.bool (c.o 5)) (mt1 (mt1 (mt1 (mt1 (mt1 mh)))))
  have cc6 := H.cell (w.heap.size) 6 (.bool (c.o 6)) (mt1 (mt1 (mt1 (mt1 (mt1 (mt1 mh))))))
  have cc7 := H.cell (w.heap.size) 7 (.slice aR c.nr cR) (mt1 (mt1 (mt1 (mt1 (mt1 (mt1 (mt1 mh)))))))
  have cc8 := H.cell (w.heap.size) 8 (.slice aD c.nd cD) (mt8 mh)
  have lc := H.lt (w.heap.size) 0 (.bool (c.o 0)) mh
  go_wp2_with fail
  clear cc0 cc1 cc2 cc3 cc4 cc5 cc6 cc7 cc8 lc
  (with_reducible refine (Calls.same (rday13_is n true _ HD.out)).mono ?_)
  rintro e w4 ⟨rfl, hb⟩
  replace H := H.below hb
  clear hb
  have cc0 := H.cell (w.heap.size) 0 (.bool (c.o 0)) mh
  have cc1 := H.cell (w.heap.size) 1 (.bool (c.o 1)) (mt1 mh)
  have cc2 := H.cell (w.heap.size) 2 (.bool (c.o 2)) (mt1 (mt1 mh))
  have cc3 := H.cell (w.heap.size) 3 (.bool (c.o 3)) (mt1 (mt1 (mt1 mh)))
  have cc4 := H.cell (w.heap.size) 4 (.bool (c.o 4)) (mt1 (mt1 (mt1 (mt1 mh))))
  have cc5 := H.cell (w.heap.size) 5 (.bool (c.o 5)) (mt1 (mt1 (mt1 (mt1 (mt1 mh)))))
  have cc6 := H.cell (w.heap.size) 6 (.bool (c.o 6)) (mt1 (mt1 (mt1 (mt1 (mt1 (mt1 mh))))))
  have cc7 := H.cell (w.heap.size) 7 (.slice aR c.nr cR) (mt1 (mt1 (mt1 (mt1 (mt1 (mt1 (mt1 mh)))))))
  have cc8 := H.cell (w.heap.size) 8 (.slice aD c.nd cD) (mt8 mh)
  have lc := H.lt (w.heap.size) 0 (.bool (c.o 0)) mh
  go_wp2_with fail
  clear cc0 cc1 cc2 cc3 cc4 cc5 cc6 cc7 cc8 lc
  (with_reducible refine (next_is c aR cR aD cD n (n + ka) 0 _ (H.factsW (mt8 (mt8 (mt1 (mt1 (mt1 mh)))))) MM.out (H.cal (mt8 (mt8 (mt1 (mt1 mh))))) (by omega) H1.out).mono ?_)
  rintro e w5 ⟨rfl, hb⟩
  replace H := H.below hb
  clear hb
  have cc0 := H.cell (w.heap.size) 0 (.bool (c.o 0)) mh
  have cc1 := H.cell (w.heap.size) 1 (.bool (c.o 1)) (mt1 mh)
  have cc2 := H.cell (w.heap.size) 2 (.bool (c.o 2)) (mt1 (mt1 mh))
  have cc3 := H.cell (w.heap.size) 3 (.bool (c.o 3)) (mt1 (mt1 (mt1 mh)))
  have cc4 := H.cell (w.heap.size) 4 (.bool (c.o 4)) (mt1 (mt1 (mt1 (mt1 mh))))
  have cc5 := H.cell (w.heap.size) 5 (.bool (c.o 5)) (mt1 (mt1 (mt1 (mt1 (mt1 mh)))))
  have cc6 := H.cell (w.heap.size) 6 (.bool (c.o 6)) (mt1 (mt1 (mt1 (mt1 (mt1 (mt1 mh))))))
  have cc7 := H.cell (w.heap.size) 7 (.slice aR c.nr cR) (mt1 (mt1 (mt1 (mt1 (mt1 (mt1 (mt1 mh)))))))
  have cc8 := H.cell (w.heap.size) 8 (.slice aD c.nd cD) (mt8 mh)
  have lc := H.lt (w.heap.size) 0 (.bool (c.o 0)) mh
  go_wp2_with fail
  clear cc0 cc1 cc2 cc3 cc4 cc5 cc6 cc7 cc8 lc
  (with_reducible refine (prev_is c aR cR aD cD n 0 f _ (H.factsW (mt8 (mt8 (mt1 (mt1 (mt1 mh)))))) MM.out (H.cal (mt8 (mt8 (mt1 (mt1 mh))))) (by omega) H2.out).mono ?_)
  rintro e w6 ⟨rfl, hb⟩
  replace H := H.below hb
  clear hb
  have cc0 := H.cell (w.heap.size) 0 (.bool (c.o 0)) mh
  have cc1 := H.cell (w.heap.size) 1 (.bool (c.o 1)) (mt1 mh)
  have cc2 := H.cell (w.heap.size) 2 (.bool (c.o 2)) (mt1 (mt1 mh))
  have cc3 := H.cell (w.heap.size) 3 (.bool (c.o 3)) (mt1 (mt1 (mt1 mh)))
  have cc4 := H.cell (w.heap.size) 4 (.bool (c.o 4)) (mt1 (mt1 (mt1 (mt1 mh))))
  have cc5 := H.cell (w.heap.size) 5 (.bool (c.o 5)) (mt1 (mt1 (mt1 (mt1 (mt1 mh)))))
  have cc6 := H.cell (w.heap.size) 6 (.bool (c.o 6)) (mt1 (mt1 (mt1 (mt1 (mt1 (mt1 mh))))))
  have cc7 := H.cell (w.heap.size) 7 (.slice aR c.nr cR) (mt1 (mt1 (mt1 (mt1 (mt1 (mt1 (mt1 mh)))))))
  have cc8 := H.cell (w.heap.size) 8 (.slice aD c.nd cD) (mt8 mh)
  have lc := H.lt (w.heap.size) 0 (.bool (c.o 0)) mh
  repeat' (first | simp only [List.append_eq, List.cons_append, List.nil_append] | go_values | go_skip | go_guarded | go_step | go_upon)
  clear cc0 cc1 cc2 cc3 cc4 cc5 cc6 cc7 cc8 lc
  (with_reducible refine (rcis_any c aR cR aD cD (n + ka) true _ HZ.out MM.out.rules (H.cal (mt8 (mt8 (mt1 (mt1 mh))))) ⟨fun _ => IA.out, fun _ => rfl⟩).mono ?_)
  rintro e w7 ⟨rfl, hb⟩
  replace H := H.below hb
  clear hb
  repeat' (first | simp only [List.append_eq, List.cons_append, List.nil_append] | go_values | go_skip | go_guarded | go_step | go_upon)
  go_loopw [12] (fun i W' => ∃ (j : Nat), j ≤ ka ∧ i = .int .i64 (n + j) ∧ Held w [.cell (w.heap.size) 0 (.bool (c.o 0)), .cell (w.heap.size) 1 (.bool (c.o 1)), .cell (w.heap.size) 2 (.bool (c.o 2)), .cell (w.heap.size) 3 (.bool (c.o 3)), .cell (w.heap.size) 4 (.bool (c.o 4)), .cell (w.heap.size) 5 (.bool (c.o 5)), .cell (w.heap.size) 6 (.bool (c.o 6)), .cell (w.heap.size) 7 (.slice aR c.nr cR), .cell (w.heap.size) 8 (.slice aD c.nd cD), .free (w.heap.size) 0, .free (w.heap.size) 1, .free (w.heap.size) 2, .free (w.heap.size) 3, .free (w.heap.size) 4, .free (w.heap.size) 5, .free (w.heap.size) 6, .free (w.heap.size) 7, .free (w.heap.size) 8, calF c aR cR aD cD, factsWF] W') (fun i _ => (ka - ((intOf i - n).toNat) : Nat))
  case atStart => exact ⟨0, by omega, by simp, H⟩
  case round =>
    clear H
    obtain ⟨j, j1, rfl, H⟩ := hrel
    by_cases hj : j < ka
    · have Q := Lib.hid (fun v (k : CalAt v c aR cR aD cD) => rcis_any c aR cR aD cD (n + j) false v HZ.out MM.out.rules k ⟨fun g => absurd g (by decide), fun g => absurd g (HU.out j hj)⟩)
      have cc0 := H.cell (w.heap.size) 0 (.bool (c.o 0)) mh
      have cc1 := H.cell (w.heap.size) 1 (.bool (c.o 1)) (mt1 mh)
      have cc2 := H.cell (w.heap.size) 2 (.bool (c.o 2)) (mt1 (mt1 mh))
      have cc3 := H.cell (w.heap.size) 3 (.bool (c.o 3)) (mt1 (mt1 (mt1 mh)))
      have cc4 := H.cell (w.heap.size) 4 (.bool (c.o 4)) (mt1 (mt1 (mt1 (mt1 mh))))
      have cc5 := H.cell (w.heap.size) 5 (.bool (c.o 5)) (mt1 (mt1 (mt1 (mt1 (mt1 mh)))))
      have cc6 := H.cell (w.heap.size) 6 (.bool (c.o 6)) (mt1 (mt1 (mt1 (mt1 (mt1 (mt1 mh))))))
      have cc7 := H.cell (w.heap.size) 7 (.slice aR c.nr cR) (mt1 (mt1 (mt1 (mt1 (mt1 (mt1 (mt1 mh)))))))
      have cc8 := H.cell (w.heap.size) 8 (.slice aD c.nd cD) (mt8 mh)
      have lc := H.lt (w.heap.size) 0 (.bool (c.o 0)) mh
      repeat' (first | simp only [List.append_eq, List.cons_append, List.nil_append] | go_values | go_skip | go_guarded | go_step | go_upon)
      clear cc0 cc1 cc2 cc3 cc4 cc5 cc6 cc7 cc8 lc
      (with_reducible refine (Q.out _ (H.cal (mt8 (mt8 (mt1 (mt1 mh)))))).mono ?_)
      rintro e wl ⟨rfl, hb⟩
      replace H := H.below hb
      clear hb Q
      repeat' (first | simp only [List.append_eq, List.cons_append, List.nil_append] | go_values | go_skip | go_guarded | go_step | go_upon)
      go_roundw
      case rel => exact ⟨j + 1, by omega, by simp only [Value.int.injEq, true_and]; omega, H⟩
      case measure => simp [intOf]; omega
    · obtain rfl : ka = j := by omega
      have cc0 := H.cell (w.heap.size) 0 (.bool (c.o 0)) mh
      have cc1 := H.cell (w.heap.size) 1 (.bool (c.o 1)) (mt1 mh)
      have cc2 := H.cell (w.heap.size) 2 (.bool (c.o 2)) (mt1 (mt1 mh))
      have cc3 := H.cell (w.heap.size) 3 (.bool (c.o 3)) (mt1 (mt1 (mt1 mh)))
      have cc4 := H.cell (w.heap.size) 4 (.bool (c.o 4)) (mt1 (mt1 (mt1 (mt1 mh))))
      have cc5 := H.cell (w.heap.size) 5 (.bool (c.o 5)) (mt1 (mt1 (mt1 (mt1 (mt1 mh)))))
      have cc6 := H.cell (w.heap.size) 6 (.bool (c.o 6)) (mt1 (mt1 (mt1 (mt1 (mt1 (mt1 mh))))))
      have cc7 := H.cell (w.heap.size) 7 (.slice aR c.nr cR) (mt1 (mt1 (mt1 (mt1 (mt1 (mt1 (mt1 mh)))))))
      have cc8 := H.cell (w.heap.size) 8 (.slice aD c.nd cD) (mt8 mh)
      have lc := H.lt (w.heap.size) 0 (.bool (c.o 0)) mh
      repeat' (first | simp only [List.append_eq, List.cons_append, List.nil_append] | go_values | go_skip | go_guarded | go_step | go_upon)
      clear cc0 cc1 cc2 cc3 cc4 cc5 cc6 cc7 cc8 lc
      refine wp_loop_rounds 1 ?_
      rw [rounds_succ]
      have cc0 := H.cell (w.heap.size) 0 (.bool (c.o 0)) mh
      have cc1 := H.cell (w.heap.size) 1 (.bool (c.o 1)) (mt1 mh)
      have cc2 := H.cell (w.heap.size) 2 (.bool (c.o 2)) (mt1 (mt1 mh))
      have cc3 := H.cell (w.heap.size) 3 (.bool (c.o 3)) (mt1 (mt1 (mt1 mh)))
      have cc4 := H.cell (w.heap.size) 4 (.bool (c.o 4)) (mt1 (mt1 (mt1 (mt1 mh))))
      have cc5 := H.cell (w.heap.size) 5 (.bool (c.o 5)) (mt1 (mt1 (mt1 (mt1 (mt1 mh)))))
      have cc6 := H.cell (w.heap.size) 6 (.bool (c.o 6)) (mt1 (mt1 (mt1 (mt1 (mt1 (mt1 mh))))))
      have cc7 := H.cell (w.heap.size) 7 (.slice aR c.nr cR) (mt1 (mt1 (mt1 (mt1 (mt1 (mt1 (mt1 mh)))))))
      have cc8 := H.cell (w.heap.size) 8 (.slice aD c.nd cD) (mt8 mh)
      have lc := H.lt (w.heap.size) 0 (.bool (c.o 0)) mh
      repeat' (first | simp only [List.append_eq, List.cons_append, List.nil_append] | go_values | go_skip | go_guarded | go_step | go_upon)
      clear cc0 cc1 cc2 cc3 cc4 cc5 cc6 cc7 cc8 lc
      (with_reducible refine (to_is14 c aR cR aD cD n (k % 5) x g _ (H.factsW (mt8 (mt8 (mt1 (mt1 (mt1 mh)))))) MM.out (H.cal (mt8 (mt8 (mt1 (mt1 mh))))) (by omega) H3.out).mono ?_)
      rintro e w8 ⟨rfl, hb⟩
      replace H := H.below hb
      clear hb
      have cc0 := H.cell (w.heap.size) 0 (.bool (c.o 0)) mh
      have cc1 := H.cell (w.heap.size) 1 (.bool (c.o 1)) (mt1 mh)
      have cc2 := H.cell (w.heap.size) 2 (.bool (c.o 2)) (mt1 (mt1 mh))
      have cc3 := H.cell (w.heap.size) 3 (.bool (c.o 3)) (mt1 (mt1 (mt1 mh)))
      have cc4 := H.cell (w.heap.size) 4 (.bool (c.o 4)) (mt1 (mt1 (mt1 (mt1 mh))))
      have cc5 := H.cell (w.heap.size) 5 (.bool (c.o 5)) (mt1 (mt1 (mt1 (mt1 (mt1 mh)))))
      have cc6 := H.cell (w.heap.size) 6 (.bool (c.o 6)) (mt1 (mt1 (mt1 (mt1 (mt1 (mt1 mh))))))
      have cc7 := H.cell (w.heap.size) 7 (.slice aR c.nr cR) (mt1 (mt1 (mt1 (mt1 (mt1 (mt1 (mt1 mh)))))))
      have cc8 := H.cell (w.heap.size) 8 (.slice aD c.nd cD) (mt8 mh)
      have lc := H.lt (w.heap.size) 0 (.bool (c.o 0)) mh
      repeat' (first | simp only [List.append_eq, List.cons_append, List.nil_append] | go_values | go_skip | go_guarded | go_step | go_upon)
      clear cc0 cc1 cc2 cc3 cc4 cc5 cc6 cc7 cc8 lc
      (with_reducible refine (rcis_any c aR cR aD cD n false _ HZ.out MM.out.rules (H.cal (mt8 (mt8 (mt1 (mt1 mh))))) ⟨fun g => absurd g (by decide), fun g => absurd g HI.out⟩).mono ?_)
      rintro e w9 ⟨rfl, hb⟩
      replace H := H.below hb
      clear hb
      rcases HX.out with gz | ⟨rfl, xk, rfl⟩ | ⟨rfl, xa⟩
      · have y1 : (g != 0) = true := by simpa using gz
        repeat' (first | simp only [List.append_eq, List.cons_append, List.nil_append] | go_values | go_skip | go_guarded | go_step | go_upon)
        go_ret
        exact ⟨rfl, H.old⟩
      · have y1 : (k % 5 == 0) = true := by simpa using xk
        repeat' (first | simp only [List.append_eq, List.cons_append, List.nil_append] | go_values | go_skip | go_guarded | go_step | go_upon)
        go_ret
        exact ⟨rfl, H.old⟩
      · have y1 : (x == n) = false := by simp; omega
        have y2 : (x == n + ka) = true := by simpa using xa
        repeat' (first | simp only [List.append_eq, List.cons_append, List.nil_append] | go_values | go_skip | go_guarded | go_step | go_upon)
        go_ret
        exact ⟨rfl, H.old⟩

set_option maxHeartbeats 8000000 in
set_option maxRecDepth 100000 in
theorem ronear_10 (c : Ca) (aR : Option Addr) (cR : Nat) (aD : Option Addr) (cD : Nat) (n k x g e : Int) (kb : Nat) (w : World) (hL : FactsW w) (hCc : CalAt w c aR cR aD cD) (bk : 0 ≤ k ∧ k < 256) (hf : decide (c.nr ≤ 12 ∧ c.nd ≤ 60) = true) (hS : c.Small) (hM : c.May) (hd : decide (1 ≤ n ∧ n ≤ 3652059) = true) (nb : 1 ≤ n ∧ n ≤ 3652059) (hi : ¬ c.Is n) (h1 : StepIs c 1 n 0 e) (h2 : StepIs c (-1) n (n - kb) 0) (h3 : ToIs c n (k % 5) x g) (ke : (e == 0) = false) (ub : 1 ≤ kb ∧ kb ≤ 60 ∧ (kb : Int) < n) (ib : c.Is (n - kb)) (hv : ∀ l : Nat, l < kb → ¬ c.Is (n - l)) (hx : (g ≠ 0) ∨ (g = 0 ∧ k % 5 = 0 ∧ x = n) ∨ (g = 0 ∧ x = n - kb)) :
    Calls Tryd.prog 4 #[.agg #[.bool (c.o 0), .bool (c.o 1), .bool (c.o 2), .bool (c.o 3), .bool (c.o 4), .bool (c.o 5), .bool (c.o 6), .slice aR c.nr cR, .slice aD c.nd cD], .int .i64 n, .int .u8 k] w fun e w' => e = .returned (.bool true) ∧ Below w.heap.size w w' := by
  have H := ((Held.start w).add (f := factsWF) hL).add (f := calF c aR cR aD cD) hCc
  clear hL hCc
  have ze : (e != 0) = true := by simpa using ke
  have HF := Lib.hid hf
  have HZ := Lib.hid hS
  have MM := Lib.hid hM
  have HD := Lib.hid hd
  have HI := Lib.hid hi
  have H1 := Lib.hid h1
  have H2 := Lib.hid h2
  have H3 := Lib.hid h3
  have IB := Lib.hid ib
  have HV := Lib.hid hv
  have HX := Lib.hid hx
  clear hf hS hM hd hi h1 h2 h3 ib hv hx
  go_enter Tryd.func4, Tryd.ntmps4
  go_wp2_with fail
  replace H := (H.box_9 (w.heap.size) (.bool (c.o 0)) (.bool (c.o 1)) (.bool (c.o 2)) (.bool (c.o 3)) (.bool (c.o 4)) (.bool (c.o 5)) (.bool (c.o 6)) (.slice aR c.nr cR) (.slice aD c.nd cD) 26 rfl)
  (with_reducible refine (roshown_any _ (H.factsW (mt8 (mt8 (mt1 (mt1 (mt1 mh))))))).mono ?_)
  rintro e w1 ⟨rfl, hb⟩
  replace H := H.below hb
  clear hb
  have cc0 := H.cell (w.heap.size) 0 (.bool (c.o 0)) mh
  have cc1 := H.cell (w.heap.size) 1 (.bool (c.o 1)) (mt1 mh)
  have cc2 := H.cell (w.heap.size) 2 (.bool (c.o 2)) (mt1 (mt1 mh))
  have cc3 := H.cell (w.heap.size) 3 (.bool (c.o 3)) (mt1 (mt1 (mt1 mh)))
  have cc4 := H.cell (w.heap.size) 4 (.bool (c.o 4)) (mt1 (mt1 (mt1 (mt1 mh))))
  have cc5 := H.cell (w.heap.size) 5 (.bool (c.o 5)) (mt1 (mt1 (mt1 (mt1 (mt1 mh)))))
  have cc6 := H.cell (w.heap.size) 6 (.bool (c.o 6)) (mt1 (mt1 (mt1 (mt1 (mt1 (mt1 mh))))))
  have cc7 := H.cell (w.heap.size) 7 (.slice aR c.nr cR) (mt1 (mt1 (mt1 (mt1 (mt1 (mt1 (mt1 mh)))))))
  have cc8 := H.cell (w.heap.size) 8 (.slice aD c.nd cD) (mt8 mh)
  have lc := H.lt (w.heap.size) 0 (.bool (c.o 0)) mh
  go_wp2_with fail
  clear cc0 cc1 cc2 cc3 cc4 cc5 cc6 cc7 cc8 lc
  (with_reducible refine (few_any c aR cR aD cD true _ HF.out).mono ?_)
  rintro e w2 ⟨rfl, hb⟩
  replace H := H.below hb
  clear hb
  have cc0 := H.cell (w.heap.size) 0 (.bool (c.o 0)) mh
  have cc1 := H.cell (w.heap.size) 1 (.bool (c.o 1)) (mt1 mh)
  have cc2 := H.cell (w.heap.size) 2 (.bool (c.o 2)) (mt1 (mt1 mh))
  have cc3 := H.cell (w.heap.size) 3 (.bool (c.o 3)) (mt1 (mt1 (mt1 mh)))
  have cc4 := H.cell (w.heap.size) 4 (.bool (c.o 4)) (mt1 (mt1 (mt1 (mt1 mh))))
  have cc5 := H.cell (w.heap.size) 5 (.bool (c.o 5)) (mt1 (mt1 (mt1 (mt1 (mt1 mh)))))
  have cc6 := H.cell (w.heap.size) 6 (.bool (c.o 6)) (mt1 (mt1 (mt1 (mt1 (mt1 (mt1 mh))))))
  have cc7 := H.cell (w.heap.size) 7 (.slice aR c.nr cR) (mt1 (mt1 (mt1 (mt1 (mt1 (mt1 (mt1 mh)))))))
  have cc8 := H.cell (w.heap.size) 8 (.slice aD c.nd cD) (mt8 mh)
  have lc := H.lt (w.heap.size) 0 (.bool (c.o 0)) mh
  go_wp2_with fail
  clear cc0 cc1 cc2 cc3 cc4 cc5 cc6 cc7 cc8 lc
  (with_reducible refine (rcmay_any c aR cR aD cD true _ HZ.out (H.cal (mt8 (mt8 (mt1 (mt1 mh))))) ⟨fun _ => MM.out, fun _ => rfl⟩).mono ?_)
  rintro e w3 ⟨rfl, hb⟩
  replace H := H.below hb
  clear hb
  have cc0 := H.cell (w.heap.size) 0 (.bool (c.o 0)) mh
  have cc1 := H.cell (w.heap.size) 1 (.bool (c.o 1)) (mt1 mh)
  have cc2 := H.cell (w.heap.size) 2 (.bool (c.o 2)) (mt1 (mt1 mh))
  have cc3 := H.cell (w.heap.size) 3 (.bool (c.o 3)) (mt1 (mt1 (mt1 mh)))
  have cc4 := H.cell (w.heap.size) 4 (.bool (c.o 4)) (mt1 (mt1 (mt1 (mt1 mh))))
  have cc5 := H.cell (w.heap.size) 5 (.bool (c.o 5)) (mt1 (mt1 (mt1 (mt1 (mt1 mh)))))
  have cc6 := H.cell (w.heap.size) 6 (.bool (c.o 6)) (mt1 (mt1 (mt1 (mt1 (mt1 (mt1 mh))))))
  have cc7 := H.cell (w.heap.size) 7 (.slice aR c.nr cR) (mt1 (mt1 (mt1 (mt1 (mt1 (mt1 (mt1 mh)))))))
  have cc8 := H.cell (w.heap.size) 8 (.slice aD c.nd cD) (mt8 mh)
  have lc := H.lt (w.heap.size) 0 (.bool (c.o 0)) mh
  go_wp2_with fail
  clear cc0 cc1 cc2 cc3 cc4 cc5 cc6 cc7 cc8 lc
  (with_reducible refine (Calls.same (rday13_is n true _ HD.out)).mono ?_)
  rintro e w4 ⟨rfl, hb⟩
  replace H := H.below hb
  clear hb
  have cc0 := H.cell (w.heap.size) 0 (.bool (c.o 0)) mh
  have cc1 := H.cell (w.heap.size) 1 (.bool (c.o 1)) (mt1 mh)
  have cc2 := H.cell (w.heap.size) 2 (.bool (c.o 2)) (mt1 (mt1 mh))
  have cc3 := H.cell (w.heap.size) 3 (.bool (c.o 3)) (mt1 (mt1 (mt1 mh)))
  have cc4 := H.cell (w.heap.size) 4 (.bool (c.o 4)) (mt1 (mt1 (mt1 (mt1 mh))))
  have cc5 := H.cell (w.heap.size) 5 (.bool (c.o 5)) (mt1 (mt1 (mt1 (mt1 (mt1 mh)))))
  have cc6 := H.cell (w.heap.size) 6 (.bool (c.o 6)) (mt1 (mt1 (mt1 (mt1 (mt1 (mt1 mh))))))
  have cc7 := H.cell (w.heap.size) 7 (.slice aR c.nr cR) (mt1 (mt1 (mt1 (mt1 (mt1 (mt1 (mt1 mh)))))))
  have cc8 := H.cell (w.heap.size) 8 (.slice aD c.nd cD) (mt8 mh)
  have lc := H.lt (w.heap.size) 0 (.bool (c.o 0)) mh
  go_wp2_with fail
  clear cc0 cc1 cc2 cc3 cc4 cc5 cc6 cc7 cc8 lc
  (with_reducible refine (next_is c aR cR aD cD n 0 e _ (H.factsW (mt8 (mt8 (mt1 (mt1 (mt1 mh)))))) MM.out (H.cal (mt8 (mt8 (mt1 (mt1 mh))))) (by omega) H1.out).mono ?_)
  rintro e w5 ⟨rfl, hb⟩
  replace H := H.below hb
  clear hb
  have cc0 := H.cell (w.heap.size) 0 (.bool (c.o 0)) mh
  have cc1 := H.cell (w.heap.size) 1 (.bool (c.o 1)) (mt1 mh)
  have cc2 := H.cell (w.heap.size) 2 (.bool (c.o 2)) (mt1 (mt1 mh))
  have cc3 := H.cell (w.heap.size) 3 (.bool (c.o 3)) (mt1 (mt1 (mt1 mh)))
  have cc4 := H.cell (w.heap.size) 4 (.bool (c.o 4)) (mt1 (mt1 (mt1 (mt1 mh))))
  have cc5 := H.cell (w.heap.size) 5 (.bool (c.o 5)) (mt1 (mt1 (mt1 (mt1 (mt1 mh)))))
  have cc6 := H.cell (w.heap.size) 6 (.bool (c.o 6)) (mt1 (mt1 (mt1 (mt1 (mt1 (mt1 mh))))))
  have cc7 := H.cell (w.heap.size) 7 (.slice aR c.nr cR) (mt1 (mt1 (mt1 (mt1 (mt1 (mt1 (mt1 mh)))))))
  have cc8 := H.cell (w.heap.size) 8 (.slice aD c.nd cD) (mt8 mh)
  have lc := H.lt (w.heap.size) 0 (.bool (c.o 0)) mh
  go_wp2_with fail
  clear cc0 cc1 cc2 cc3 cc4 cc5 cc6 cc7 cc8 lc
  (with_reducible refine (prev_is c aR cR aD cD n (n - kb) 0 _ (H.factsW (mt8 (mt8 (mt1 (mt1 (mt1 mh)))))) MM.out (H.cal (mt8 (mt8 (mt1 (mt1 mh))))) (by omega) H2.out).mono ?_)
  rintro e w6 ⟨rfl, hb⟩
  replace H := H.below hb
  clear hb
  have cc0 := H.cell (w.heap.size) 0 (.bool (c.o 0)) mh
  have cc1 := H.cell (w.heap.size) 1 (.bool (c.o 1)) (mt1 mh)
  have cc2 := H.cell (w.heap.size) 2 (.bool (c.o 2)) (mt1 (mt1 mh))
  have cc3 := H.cell (w.heap.size) 3 (.bool (c.o 3)) (mt1 (mt1 (mt1 mh)))
  have cc4 := H.cell (w.heap.size) 4 (.bool (c.o 4)) (mt1 (mt1 (mt1 (mt1 mh))))
  have cc5 := H.cell (w.heap.size) 5 (.bool (c.o 5)) (mt1 (mt1 (mt1 (mt1 (mt1 mh)))))
  have cc6 := H.cell (w.heap.size) 6 (.bool (c.o 6)) (mt1 (mt1 (mt1 (mt1 (mt1 (mt1 mh))))))
  have cc7 := H.cell (w.heap.size) 7 (.slice aR c.nr cR) (mt1 (mt1 (mt1 (mt1 (mt1 (mt1 (mt1 mh)))))))
  have cc8 := H.cell (w.heap.size) 8 (.slice aD c.nd cD) (mt8 mh)
  have lc := H.lt (w.heap.size) 0 (.bool (c.o 0)) mh
  repeat' (first | simp only [List.append_eq, List.cons_append, List.nil_append] | go_values | go_skip | go_guarded | go_step | go_upon)
  clear cc0 cc1 cc2 cc3 cc4 cc5 cc6 cc7 cc8 lc
  (with_reducible refine (rcis_any c aR cR aD cD (n - kb) true _ HZ.out MM.out.rules (H.cal (mt8 (mt8 (mt1 (mt1 mh))))) ⟨fun _ => IB.out, fun _ => rfl⟩).mono ?_)
  rintro e w7 ⟨rfl, hb⟩
  replace H := H.below hb
  clear hb
  repeat' (first | simp only [List.append_eq, List.cons_append, List.nil_append] | go_values | go_skip | go_guarded | go_step | go_upon)
  refine wp_loop_rounds 1 ?_
  rw [rounds_succ]
  repeat' (first | simp only [List.append_eq, List.cons_append, List.nil_append] | go_values | go_skip | go_guarded | go_step | go_upon)
  go_loopw [13] (fun i W' => ∃ (j : Nat), j ≤ kb ∧ i = .int .i64 (n - j) ∧ Held w [.cell (w.heap.size) 0 (.bool (c.o 0)), .cell (w.heap.size) 1 (.bool (c.o 1)), .cell (w.heap.size) 2 (.bool (c.o 2)), .cell (w.heap.size) 3 (.bool (c.o 3)), .cell (w.heap.size) 4 (.bool (c.o 4)), .cell (w.heap.size) 5 (.bool (c.o 5)), .cell (w.heap.size) 6 (.bool (c.o 6)), .cell (w.heap.size) 7 (.slice aR c.nr cR), .cell (w.heap.size) 8 (.slice aD c.nd cD), .free (w.heap.size) 0, .free (w.heap.size) 1, .free (w.heap.size) 2, .free (w.heap.size) 3, .free (w.heap.size) 4, .free (w.heap.size) 5, .free (w.heap.size) 6, .free (w.heap.size) 7, .free (w.heap.size) 8, calF c aR cR aD cD, factsWF] W') (fun i _ => (kb - ((n - intOf i).toNat) : Nat))
  case atStart => exact ⟨0, by omega, by simp, H⟩
  case round =>
    clear H
    obtain ⟨j, j1, rfl, H⟩ := hrel
    by_cases hj : j < kb
    · have Q := Lib.hid (fun v (k : CalAt v c aR cR aD cD) => rcis_any c aR cR aD cD (n - j) false v HZ.out MM.out.rules k ⟨fun g => absurd g (by decide), fun g => absurd g (HV.out j hj)⟩)
      have cc0 := H.cell (w.heap.size) 0 (.bool (c.o 0)) mh
      have cc1 := H.cell (w.heap.size) 1 (.bool (c.o 1)) (mt1 mh)
      have cc2 := H.cell (w.heap.size) 2 (.bool (c.o 2)) (mt1 (mt1 mh))
      have cc3 := H.cell (w.heap.size) 3 (.bool (c.o 3)) (mt1 (mt1 (mt1 mh)))
      have cc4 := H.cell (w.heap.size) 4 (.bool (c.o 4)) (mt1 (mt1 (mt1 (mt1 mh))))
      have cc5 := H.cell (w.heap.size) 5 (.bool (c.o 5)) (mt1 (mt1 (mt1 (mt1 (mt1 mh)))))
      have cc6 := H.cell (w.heap.size) 6 (.bool (c.o 6)) (mt1 (mt1 (mt1 (mt1 (mt1 (mt1 mh))))))
      have cc7 := H.cell (w.heap.size) 7 (.slice aR c.nr cR) (mt1 (mt1 (mt1 (mt1 (mt1 (mt1 (mt1 mh)))))))
      have cc8 := H.cell (w.heap.size) 8 (.slice aD c.nd cD) (mt8 mh)
      have lc := H.lt (w.heap.size) 0 (.bool (c.o 0)) mh
      repeat' (first | simp only [List.append_eq, List.cons_append, List.nil_append] | go_values | go_skip | go_guarded | go_step | go_upon)
      clear cc0 cc1 cc2 cc3 cc4 cc5 cc6 cc7 cc8 lc
      (with_reducible refine (Q.out _ (H.cal (mt8 (mt8 (mt1 (mt1 mh)))))).mono ?_)
      rintro e wl ⟨rfl, hb⟩
      replace H := H.below hb
      clear hb Q
      repeat' (first | simp only [List.append_eq, List.cons_append, List.nil_append] | go_values | go_skip | go_guarded | go_step | go_upon)
      go_roundw
      case rel => exact ⟨j + 1, by omega, by simp only [Value.int.injEq, true_and]; omega, H⟩
      case measure => simp [intOf]; omega
    · obtain rfl : kb = j := by omega
      have cc0 := H.cell (w.heap.size) 0 (.bool (c.o 0)) mh
      have cc1 := H.cell (w.heap.size) 1 (.bool (c.o 1)) (mt1 mh)
      have cc2 := H.cell (w.heap.size) 2 (.bool (c.o 2)) (mt1 (mt1 mh))
      have cc3 := H.cell (w.heap.size) 3 (.bool (c.o 3)) (mt1 (mt1 (mt1 mh)))
      have cc4 := H.cell (w.heap.size) 4 (.bool (c.o 4)) (mt1 (mt1 (mt1 (mt1 mh))))
      have cc5 := H.cell (w.heap.size) 5 (.bool (c.o 5)) (mt1 (mt1 (mt1 (mt1 (mt1 mh)))))
      have cc6 := H.cell (w.heap.size) 6 (.bool (c.o 6)) (mt1 (mt1 (mt1 (mt1 (mt1 (mt1 mh))))))
      have cc7 := H.cell (w.heap.size) 7 (.slice aR c.nr cR) (mt1 (mt1 (mt1 (mt1 (mt1 (mt1 (mt1 mh)))))))
      have cc8 := H.cell (w.heap.size) 8 (.slice aD c.nd cD) (mt8 mh)
      have lc := H.lt (w.heap.size) 0 (.bool (c.o 0)) mh
      repeat' (first | simp only [List.append_eq, List.cons_append, List.nil_append] | go_values | go_skip | go_guarded | go_step | go_upon)
      clear cc0 cc1 cc2 cc3 cc4 cc5 cc6 cc7 cc8 lc
      (with_reducible refine (to_is14 c aR cR aD cD n (k % 5) x g _ (H.factsW (mt8 (mt8 (mt1 (mt1 (mt1 mh)))))) MM.out (H.cal (mt8 (mt8 (mt1 (mt1 mh))))) (by omega) H3.out).mono ?_)
      rintro e w8 ⟨rfl, hb⟩
      replace H := H.below hb
      clear hb
      have cc0 := H.cell (w.heap.size) 0 (.bool (c.o 0)) mh
      have cc1 := H.cell (w.heap.size) 1 (.bool (c.o 1)) (mt1 mh)
      have cc2 := H.cell (w.heap.size) 2 (.bool (c.o 2)) (mt1 (mt1 mh))
      have cc3 := H.cell (w.heap.size) 3 (.bool (c.o 3)) (mt1 (mt1 (mt1 mh)))
      have cc4 := H.cell (w.heap.size) 4 (.bool (c.o 4)) (mt1 (mt1 (mt1 (mt1 mh))))
      have cc5 := H.cell (w.heap.size) 5 (.bool (c.o 5)) (mt1 (mt1 (mt1 (mt1 (mt1 mh)))))
      have cc6 := H.cell (w.heap.size) 6 (.bool (c.o 6)) (mt1 (mt1 (mt1 (mt1 (mt1 (mt1 mh))))))
      have cc7 := H.cell (w.heap.size) 7 (.slice aR c.nr cR) (mt1 (mt1 (mt1 (mt1 (mt1 (mt1 (mt1 mh)))))))
      have cc8 := H.cell (w.heap.size) 8 (.slice aD c.nd cD) (mt8 mh)
      have lc := H.lt (w.heap.size) 0 (.bool (c.o 0)) mh
      repeat' (first | simp only [List.append_eq, List.cons_append, List.nil_append] | go_values | go_skip | go_guarded | go_step | go_upon)
      clear cc0 cc1 cc2 cc3 cc4 cc5 cc6 cc7 cc8 lc
      (with_reducible refine (rcis_any c aR cR aD cD n false _ HZ.out MM.out.rules (H.cal (mt8 (mt8 (mt1 (mt1 mh))))) ⟨fun g => absurd g (by decide), fun g => absurd g HI.out⟩).mono ?_)
      rintro e w9 ⟨rfl, hb⟩
      replace H := H.below hb
      clear hb
      rcases HX.out with gz | ⟨rfl, xk, rfl⟩ | ⟨rfl, xb⟩
      · have y1 : (g != 0) = true := by simpa using gz
        repeat' (first | simp only [List.append_eq, List.cons_append, List.nil_append] | go_values | go_skip | go_guarded | go_step | go_upon)
        go_ret
        exact ⟨rfl, H.old⟩
      · have y1 : (k % 5 == 0) = true := by simpa using xk
        repeat' (first | simp only [List.append_eq, List.cons_append, List.nil_append] | go_values | go_skip | go_guarded | go_step | go_upon)
        go_ret
        exact ⟨rfl, H.old⟩
      · have y1 : (x == n) = false := by simp; omega
        have y2 : (x == 0) = false := by simp; omega
        have y3 : (x == n - kb) = true := by simpa using xb
        repeat' (first | simp only [List.append_eq, List.cons_append, List.nil_append] | go_values | go_skip | go_guarded | go_step | go_upon)
        go_ret
        exact ⟨rfl, H.old⟩

set_option maxHeartbeats 8000000 in
set_option maxRecDepth 100000 in
theorem ronear_11 (c : Ca) (aR : Option Addr) (cR : Nat) (aD : Option Addr) (cD : Nat) (n k x g e f : Int) (w : World) (hL : FactsW w) (hCc : CalAt w c aR cR aD cD) (bk : 0 ≤ k ∧ k < 256) (hf : decide (c.nr ≤ 12 ∧ c.nd ≤ 60) = true) (hS : c.Small) (hM : c.May) (hd : decide (1 ≤ n ∧ n ≤ 3652059) = true) (nb : 1 ≤ n ∧ n ≤ 3652059) (hi : ¬ c.Is n) (h1 : StepIs c 1 n 0 e) (h2 : StepIs c (-1) n 0 f) (h3 : ToIs c n (k % 5) x g) (ke : (e == 0) = false) (kf : (f == 0) = false) (hx : (g ≠ 0) ∨ (g = 0 ∧ k % 5 = 0 ∧ x = n)) :
    Calls Tryd.prog 4 #[.agg #[.bool (c.o 0), .bool (c.o 1), .bool (c.o 2), .bool (c.o 3), .bool (c.o 4), .bool (c.o 5), .bool (c.o 6), .slice aR c.nr cR, .slice aD c.nd cD], .int .i64 n, .int .u8 k] w fun e w' => e = .returned (.bool true) ∧ Below w.heap.size w w' := by
  have H := ((Held.start w).add (f := factsWF) hL).add (f := calF c aR cR aD cD) hCc
  clear hL hCc
  have ze : (e != 0) = true := by simpa using ke
  have zf : (f != 0) = true := by simpa using kf
  have HF := Lib.hid hf
  have HZ := Lib.hid hS
  have MM := Lib.hid hM
  have HD := Lib.hid hd
  have HI := Lib.hid hi
  have H1 := Lib.hid h1
  have H2 := Lib.hid h2
  have H3 := Lib.hid h3
  have HX := Lib.hid hx
  clear hf hS hM hd hi h1 h2 h3 hx
  go_enter Tryd.func4, Tryd.ntmps4
  go_wp2_with fail
  replace H := (H.box_9 (w.heap.size) (.bool (c.o 0)) (.bool (c.o 1)) (.bool (c.o 2)) (.bool (c.o 3)) (.bool (c.o 4)) (.bool (c.o 5)) (.bool (c.o 6)) (.slice aR c.nr cR) (.slice aD c.nd cD) 26 rfl)
  (with_reducible refine (roshown_any _ (H.factsW (mt8 (mt8 (mt1 (mt1 (mt1 mh))))))).mono ?_)
  rintro e w1 ⟨rfl, hb⟩
  replace H := H.below hb
  clear hb
  have cc0 := H.cell (w.heap.size) 0 (.bool (c.o 0)) mh
  have cc1 := H.cell (w.heap.size) 1 (.bool (c.o 1)) (mt1 mh)
  have cc2 := H.cell (w.heap.size) 2 (.bool (c.o 2)) (mt1 (mt1 mh))
  have cc3 := H.cell (w.heap.size) 3 (.bool (c.o 3)) (mt1 (mt1 (mt1 mh)))
  have cc4 := H.cell (w.heap.size) 4 (.bool (c.o 4)) (mt1 (mt1 (mt1 (mt1 mh))))
  have cc5 := H.cell (w.heap.size) 5 (.bool (c.o 5)) (mt1 (mt1 (mt1 (mt1 (mt1 mh)))))
  have cc6 := H.cell (w.heap.size) 6 (.bool (c.o 6)) (mt1 (mt1 (mt1 (mt1 (mt1 (mt1 mh))))))
  have cc7 := H.cell (w.heap.size) 7 (.slice aR c.nr cR) (mt1 (mt1 (mt1 (mt1 (mt1 (mt1 (mt1 mh)))))))
  have cc8 := H.cell (w.heap.size) 8 (.slice aD c.nd cD) (mt8 mh)
  have lc := H.lt (w.heap.size) 0 (.bool (c.o 0)) mh
  go_wp2_with fail
  clear cc0 cc1 cc2 cc3 cc4 cc5 cc6 cc7 cc8 lc
  (with_reducible refine (few_any c aR cR aD cD true _ HF.out).mono ?_)
  rintro e w2 ⟨rfl, hb⟩
  replace H := H.below hb
  clear hb
  have cc0 := H.cell (w.heap.size) 0 (.bool (c.o 0)) mh
  have cc1 := H.cell (w.heap.size) 1 (.bool (c.o 1)) (mt1 mh)
  have cc2 := H.cell (w.heap.size) 2 (.bool (c.o 2)) (mt1 (mt1 mh))
  have cc3 := H.cell (w.heap.size) 3 (.bool (c.o 3)) (mt1 (mt1 (mt1 mh)))
  have cc4 := H.cell (w.heap.size) 4 (.bool (c.o 4)) (mt1 (mt1 (mt1 (mt1 mh))))
  have cc5 := H.cell (w.heap.size) 5 (.bool (c.o 5)) (mt1 (mt1 (mt1 (mt1 (mt1 mh)))))
  have cc6 := H.cell (w.heap.size) 6 (.bool (c.o 6)) (mt1 (mt1 (mt1 (mt1 (mt1 (mt1 mh))))))
  have cc7 := H.cell (w.heap.size) 7 (.slice aR c.nr cR) (mt1 (mt1 (mt1 (mt1 (mt1 (mt1 (mt1 mh)))))))
  have cc8 := H.cell (w.heap.size) 8 (.slice aD c.nd cD) (mt8 mh)
  have lc := H.lt (w.heap.size) 0 (.bool (c.o 0)) mh
  go_wp2_with fail
  clear cc0 cc1 cc2 cc3 cc4 cc5 cc6 cc7 cc8 lc
  (with_reducible refine (rcmay_any c aR cR aD cD true _ HZ.out (H.cal (mt8 (mt8 (mt1 (mt1 mh))))) ⟨fun _ => MM.out, fun _ => rfl⟩).mono ?_)
  rintro e w3 ⟨rfl, hb⟩
  replace H := H.below hb
  clear hb
  have cc0 := H.cell (w.heap.size) 0 (.bool (c.o 0)) mh
  have cc1 := H.cell (w.heap.size) 1 (.bool (c.o 1)) (mt1 mh)
  have cc2 := H.cell (w.heap.size) 2 (.bool (c.o 2)) (mt1 (mt1 mh))
  have cc3 := H.cell (w.heap.size) 3 (.bool (c.o 3)) (mt1 (mt1 (mt1 mh)))
  have cc4 := H.cell (w.heap.size) 4 (.bool (c.o 4)) (mt1 (mt1 (mt1 (mt1 mh))))
  have cc5 := H.cell (w.heap.size) 5 (.bool (c.o 5)) (mt1 (mt1 (mt1 (mt1 (mt1 mh)))))
  have cc6 := H.cell (w.heap.size) 6 (.bool (c.o 6)) (mt1 (mt1 (mt1 (mt1 (mt1 (mt1 mh))))))
  have cc7 := H.cell (w.heap.size) 7 (.slice aR c.nr cR) (mt1 (mt1 (mt1 (mt1 (mt1 (mt1 (mt1 mh)))))))
  have cc8 := H.cell (w.heap.size) 8 (.slice aD c.nd cD) (mt8 mh)
  have lc := H.lt (w.heap.size) 0 (.bool (c.o 0)) mh
  go_wp2_with fail
  clear cc0 cc1 cc2 cc3 cc4 cc5 cc6 cc7 cc8 lc
  (with_reducible refine (Calls.same (rday13_is n true _ HD.out)).mono ?_)
  rintro e w4 ⟨rfl, hb⟩
  replace H := H.below hb
  clear hb
  have cc0 := H.cell (w.heap.size) 0 (.bool (c.o 0)) mh
  have cc1 := H.cell (w.heap.size) 1 (.bool (c.o 1)) (mt1 mh)
  have cc2 := H.cell (w.heap.size) 2 (.bool (c.o 2)) (mt1 (mt1 mh))
  have cc3 := H.cell (w.heap.size) 3 (.bool (c.o 3)) (mt1 (mt1 (mt1 mh)))
  have cc4 := H.cell (w.heap.size) 4 (.bool (c.o 4)) (mt1 (mt1 (mt1 (mt1 mh))))
  have cc5 := H.cell (w.heap.size) 5 (.bool (c.o 5)) (mt1 (mt1 (mt1 (mt1 (mt1 mh)))))
  have cc6 := H.cell (w.heap.size) 6 (.bool (c.o 6)) (mt1 (mt1 (mt1 (mt1 (mt1 (mt1 mh))))))
  have cc7 := H.cell (w.heap.size) 7 (.slice aR c.nr cR) (mt1 (mt1 (mt1 (mt1 (mt1 (mt1 (mt1 mh)))))))
  have cc8 := H.cell (w.heap.size) 8 (.slice aD c.nd cD) (mt8 mh)
  have lc := H.lt (w.heap.size) 0 (.bool (c.o 0)) mh
  go_wp2_with fail
  clear cc0 cc1 cc2 cc3 cc4 cc5 cc6 cc7 cc8 lc
  (with_reducible refine (next_is c aR cR aD cD n 0 e _ (H.factsW (mt8 (mt8 (mt1 (mt1 (mt1 mh)))))) MM.out (H.cal (mt8 (mt8 (mt1 (mt1 mh))))) (by omega) H1.out).mono ?_)
  rintro e w5 ⟨rfl, hb⟩
  replace H := H.below hb
  clear hb
  have cc0 := H.cell (w.heap.size) 0 (.bool (c.o 0)) mh
  have cc1 := H.cell (w.heap.size) 1 (.bool (c.o 1)) (mt1 mh)
  have cc2 := H.cell (w.heap.size) 2 (.bool (c.o 2)) (mt1 (mt1 mh))
  have cc3 := H.cell (w.heap.size) 3 (.bool (c.o 3)) (mt1 (mt1 (mt1 mh)))
  have cc4 := H.cell (w.heap.size) 4 (.bool (c.o 4)) (mt1 (mt1 (mt1 (mt1 mh))))
  have cc5 := H.cell (w.heap.size) 5 (.bool (c.o 5)) (mt1 (mt1 (mt1 (mt1 (mt1 mh)))))
  have cc6 := H.cell (w.heap.size) 6 (.bool (c.o 6)) (mt1 (mt1 (mt1 (mt1 (mt1 (mt1 mh))))))
  have cc7 := H.cell (w.heap.size) 7 (.slice aR c.nr cR) (mt1 (mt1 (mt1 (mt1 (mt1 (mt1 (mt1 mh)))))))
  have cc8 := H.cell (w.heap.size) 8 (.slice aD c.nd cD) (mt8 mh)
  have lc := H.lt (w.heap.size) 0 (.bool (c.o 0)) mh
  go_wp2_with fail
  clear cc0 cc1 cc2 cc3 cc4 cc5 cc6 cc7 cc8 lc
  (with_reducible refine (prev_is c aR cR aD cD n 0 f _ (H.factsW (mt8 (mt8 (mt1 (mt1 (mt1 mh)))))) MM.out (H.cal (mt8 (mt8 (mt1 (mt1 mh))))) (by omega) H2.out).mono ?_)
  rintro e w6 ⟨rfl, hb⟩
  replace H := H.below hb
  clear hb
  repeat' (first | simp only [List.append_eq, List.cons_append, List.nil_append] | go_values | go_skip | go_guarded | go_step | go_upon)
  refine wp_loop_rounds 1 ?_
  rw [rounds_succ]
  repeat' (first | simp only [List.append_eq, List.cons_append, List.nil_append] | go_values | go_skip | go_guarded | go_step | go_upon)
  refine wp_loop_rounds 1 ?_
  rw [rounds_succ]
  have cc0 := H.cell (w.heap.size) 0 (.bool (c.o 0)) mh
  have cc1 := H.cell (w.heap.size) 1 (.bool (c.o 1)) (mt1 mh)
  have cc2 := H.cell (w.heap.size) 2 (.bool (c.o 2)) (mt1 (mt1 mh))
  have cc3 := H.cell (w.heap.size) 3 (.bool (c.o 3)) (mt1 (mt1 (mt1 mh)))
  have cc4 := H.cell (w.heap.size) 4 (.bool (c.o 4)) (mt1 (mt1 (mt1 (mt1 mh))))
  have cc5 := H.cell (w.heap.size) 5 (.bool (c.o 5)) (mt1 (mt1 (mt1 (mt1 (mt1 mh)))))
  have cc6 := H.cell (w.heap.size) 6 (.bool (c.o 6)) (mt1 (mt1 (mt1 (mt1 (mt1 (mt1 mh))))))
  have cc7 := H.cell (w.heap.size) 7 (.slice aR c.nr cR) (mt1 (mt1 (mt1 (mt1 (mt1 (mt1 (mt1 mh)))))))
  have cc8 := H.cell (w.heap.size) 8 (.slice aD c.nd cD) (mt8 mh)
  have lc := H.lt (w.heap.size) 0 (.bool (c.o 0)) mh
  repeat' (first | simp only [List.append_eq, List.cons_append, List.nil_append] | go_values | go_skip | go_guarded | go_step | go_upon)
  clear cc0 cc1 cc2 cc3 cc4 cc5 cc6 cc7 cc8 lc
  (with_reducible refine (to_is14 c aR cR aD cD n (k % 5) x g _ (H.factsW (mt8 (mt8 (mt1 (mt1 (mt1 mh)))))) MM.out (H.cal (mt8 (mt8 (mt1 (mt1 mh))))) (by omega) H3.out).mono ?_)
  rintro e w7 ⟨rfl, hb⟩
  replace H := H.below hb
  clear hb
  have cc0 := H.cell (w.heap.size) 0 (.bool (c.o 0)) mh
  have cc1 := H.cell (w.heap.size) 1 (.bool (c.o 1)) (mt1 mh)
  have cc2 := H.cell (w.heap.size) 2 (.bool (c.o 2)) (mt1 (mt1 mh))
  have cc3 := H.cell (w.heap.size) 3 (.bool (c.o 3)) (mt1 (mt1 (mt1 mh)))
  have cc4 := H.cell (w.heap.size) 4 (.bool (c.o 4)) (mt1 (mt1 (mt1 (mt1 mh))))
  have cc5 := H.cell (w.heap.size) 5 (.bool (c.o 5)) (mt1 (mt1 (mt1 (mt1 (mt1 mh)))))
  have cc6 := H.cell (w.heap.size) 6 (.bool (c.o 6)) (mt1 (mt1 (mt1 (mt1 (mt1 (mt1 mh))))))
  have cc7 := H.cell (w.heap.size) 7 (.slice aR c.nr cR) (mt1 (mt1 (mt1 (mt1 (mt1 (mt1 (mt1 mh)))))))
  have cc8 := H.cell (w.heap.size) 8 (.slice aD c.nd cD) (mt8 mh)
  have lc := H.lt (w.heap.size) 0 (.bool (c.o 0)) mh
  repeat' (first | simp only [List.append_eq, List.cons_append, List.nil_append] | go_values | go_skip | go_guarded | go_step | go_upon)
  clear cc0 cc1 cc2 cc3 cc4 cc5 cc6 cc7 cc8 lc
  (with_reducible refine (rcis_any c aR cR aD cD n false _ HZ.out MM.out.rules (H.cal (mt8 (mt8 (mt1 (mt1 mh))))) ⟨fun g => absurd g (by decide), fun g => absurd g HI.out⟩).mono ?_)
  rintro e w8 ⟨rfl, hb⟩
  replace H := H.below hb
  clear hb
  rcases HX.out with gz | ⟨rfl, xk, rfl⟩
  · have y1 : (g != 0) = true := by simpa using gz
    repeat' (first | simp only [List.append_eq, List.cons_append, List.nil_append] | go_values | go_skip | go_guarded | go_step | go_upon)
    go_ret
    exact ⟨rfl, H.old⟩
  · have y1 : (k % 5 == 0) = true := by simpa using xk
    repeat' (first | simp only [List.append_eq, List.cons_append, List.nil_append] | go_values | go_skip | go_guarded | go_step | go_upon)
    go_ret
    exact ⟨rfl, H.old⟩

theorem ronear_walk (c : Ca) (aR : Option Addr) (cR : Nat) (aD : Option Addr) (cD : Nat) (n k : Int) (w : World) (hL : FactsW w) (hC : CalAt w c aR cR aD cD) (bn : -9223372036854775808 ≤ n ∧ n < 9223372036854775808) (bk : 0 ≤ k ∧ k < 256) :
    Calls Tryd.prog 4 #[.agg #[.bool (c.o 0), .bool (c.o 1), .bool (c.o 2), .bool (c.o 3), .bool (c.o 4), .bool (c.o 5), .bool (c.o 6), .slice aR c.nr cR, .slice aD c.nd cD], .int .i64 n, .int .u8 k] w fun e w' => e = .returned (.bool true) ∧ Below w.heap.size w w' := by
  by_cases hf : c.Few
  · by_cases hm : c.May
    · by_cases hd : 1 ≤ n ∧ n ≤ 3652059
      · by_cases hi : c.Is n
        · exact ronear_is c aR cR aD cD n k w hL hC bk (decide_eq_true hf) hf.small hm (decide_eq_true hd) hd hi (.stay hi) (.stay hi) (.stay hi (by omega) (by omega))
        · obtain ⟨a, e, h1⟩ := step_is c 1 n
          obtain ⟨b, f, h2⟩ := step_is c (-1) n
          obtain ⟨x, g, h3⟩ := to_is c n (k % 5)
          have hx : g ≠ 0 ∨ (g = 0 ∧ k % 5 = 0 ∧ x = n) ∨ (g = 0 ∧ x = a ∧ e = 0) ∨ (g = 0 ∧ x = b ∧ f = 0) := by
            by_cases hg : g = 0
            · rcases h3.one hg h1 h2 with ⟨y1, y2⟩ | ⟨y1, y2⟩ | ⟨y1, y2⟩
              · exact Or.inr (Or.inl ⟨hg, y1, y2⟩)
              · exact Or.inr (Or.inr (Or.inl ⟨hg, y1, y2⟩))
              · exact Or.inr (Or.inr (Or.inr ⟨hg, y1, y2⟩))
            · exact Or.inl hg
          by_cases he : e = 0
          · subst he
            obtain ⟨_, ia, ka, a1, rfl, a2⟩ := h1.good rfl
            have ka0 : ka ≠ 0 := fun z => by
              subst z
              rw [show n + 1 * ((0 : Nat) : Int) = n by omega] at ia
              exact hi ia
            have A2 : ∀ l : Nat, l < ka → ¬ c.Is (n + l) := fun l hl => by
              have := a2 l hl
              rwa [show n + 1 * (l : Int) = n + l by omega] at this
            rw [show n + 1 * (ka : Int) = n + ka by omega] at h1 ia hx
            by_cases hg : f = 0
            · subst hg
              obtain ⟨_, ib, kb, b1, rfl, b2⟩ := h2.good rfl
              have kb0 : kb ≠ 0 := fun z => by
                subst z
                rw [show n + -1 * ((0 : Nat) : Int) = n by omega] at ib
                exact hi ib
              have B2 : ∀ l : Nat, l < kb → ¬ c.Is (n - l) := fun l hl => by
                have := b2 l hl
                rwa [show n + -1 * (l : Int) = n - l by omega] at this
              rw [show n + -1 * (kb : Int) = n - kb by omega] at h2 ib hx
              exact ronear_00 c aR cR aD cD n k x g ka kb w hL hC bk (decide_eq_true hf) hf.small hm (decide_eq_true hd) hd hi h1 h2 h3 (by omega) ia A2 (by have := ib.1; omega) ib B2 (by omega)
            · obtain rfl := h2.zero hg
              exact ronear_01 c aR cR aD cD n k x g f ka w hL hC bk (decide_eq_true hf) hf.small hm (decide_eq_true hd) hd hi h1 h2 h3 (by simpa using hg) (by omega) ia A2 (by omega)
          · obtain rfl := h1.zero he
            by_cases hg : f = 0
            · subst hg
              obtain ⟨_, ib, kb, b1, rfl, b2⟩ := h2.good rfl
              have kb0 : kb ≠ 0 := fun z => by
                subst z
                rw [show n + -1 * ((0 : Nat) : Int) = n by omega] at ib
                exact hi ib
              have B2 : ∀ l : Nat, l < kb → ¬ c.Is (n - l) := fun l hl => by
                have := b2 l hl
                rwa [show n + -1 * (l : Int) = n - l by omega] at this
              rw [show n + -1 * (kb : Int) = n - kb by omega] at h2 ib hx
              exact ronear_10 c aR cR aD cD n k x g e kb w hL hC bk (decide_eq_true hf) hf.small hm (decide_eq_true hd) hd hi h1 h2 h3 (by simpa using he) (by have := ib.1; omega) ib B2 (by omega)
            · obtain rfl := h2.zero hg
              exact ronear_11 c aR cR aD cD n k x g e f w hL hC bk (decide_eq_true hf) hf.small hm (decide_eq_true hd) hd hi h1 h2 h3 (by simpa using he) (by simpa using hg) (by omega)
      · exact ronear_noday c aR cR aD cD n k w hL hC bk (decide_eq_true hf) hf.small hm (decide_eq_false hd)
    · exact ronear_no c aR cR aD cD n k w hL hC bk (decide_eq_true hf) hf.small hm
  · exact ronear_many c aR cR aD cD n k w hL hC bk (decide_eq_false hf)
end Go.Proofs.YtkbhicdcjfpbaaaDoor
