/- RollMonth: the walk. -/
import Derived.Test.YtkbhicdcjfpbaaaDoorRoShown
namespace Go.Proofs.YtkbhicdcjfpbaaaDoor
open Go.RowKit
set_option linter.unusedVariables false
set_option linter.unusedSimpArgs false


set_option maxHeartbeats 8000000 in
set_option maxRecDepth 100000 in
theorem romonth_many (c : Ca) (aR : Option Addr) (cR : Nat) (aD : Option Addr) (cD : Nat) (n : Int) (w : World) (hL : FactsW w) (hCc : CalAt w c aR cR aD cD)  (hf : decide (c.nr ≤ 12 ∧ c.nd ≤ 60) = false) :
    Calls Tryd.prog 5 #[.agg #[.bool (c.o 0), .bool (c.o 1), .bool (c.o 2), .bool (c.o 3), .bool (c.o 4), .bool (c.o 5), .bool (c.o 6), .slice aR c.nr cR, .slice aD c.nd cD], .int .i64 n] w fun e w' => e = .returned (.bool true) ∧ Below w.heap.size w w' := by
  have H := ((Held.start w).add (f := factsWF) hL).add (f := calF c aR cR aD cD) hCc
  clear hL hCc
  have HF := Lib.hid hf
  clear hf
  go_enter Tryd.func5, Tryd.ntmps5
  go_wp2_with fail
  replace H := (H.box_9 (w.heap.size) (.bool (c.o 0)) (.bool (c.o 1)) (.bool (c.o 2)) (.bool (c.o 3)) (.bool (c.o 4)) (.bool (c.o 5)) (.bool (c.o 6)) (.slice aR c.nr cR) (.slice aD c.nd cD) 26 rfl)
  (with_reducible refine (roshown_any _ (H.factsW (mt8 (mt8 (mt1 (mt1 (mt1 mh))))))).mono ?_)
  rintro e w1 ⟨rfl, hb⟩
  replace H := H.below hb
  clear hb
  have cc0 := H.cell (w.heap.size) 0 (.bool (c.o 0)) mh
  have cc1 := H.cell (w.heap.size) 1 (.bool (c.o 1)) (mt1 mh)
  have cc2 := H.cell (w.heap.size) 2 (.bool (c.o 2)) (mt1 (mt1 mh))
  have cc3 := H.cell (w.heap.size) 3 (.bool (c.o 3)) (mt1 (mt1 (mt1 mh)))
  have cc4 := H.cell (w.heap.size) 4 (.bool (c.o 4)) (mt1 (mt1 (mt1 (mt1 mh))))
  have cc5 := H.cell (w.heap.size) 5 (.bool (c.o 5)) (mt1 (mt1 (mt1 (mt1 (mt1 mh)))))
  have cc6 := H.cell (w.heap.size) 6 (.bool (c.o 6)) (mt1 (mt1 (mt1 (mt1 (mt1 (mt1 mh))))))
  have cc7 := H.cell (w.heap.size) 7 (.slice aR c.nr cR) (mt1 (mt1 (mt1 (mt1 (mt1 (mt1 (mt1 mh)))))))
  have cc8 := H.cell (w.heap.size) 8 (.slice aD c.nd cD) (mt8 mh)
  have lc := H.lt (w.heap.size) 0 (.bool (c.o 0)) mh
  go_wp2_with fail
  clear cc0 cc1 cc2 cc3 cc4 cc5 cc6 cc7 cc8 lc
  (with_reducible refine (few_any c aR cR aD cD false _ HF.out).mono ?_)
  rintro e w2 ⟨rfl, hb⟩
  replace H := H.below hb
  clear hb
  go_wp2_with fail
  go_ret
  exact ⟨rfl, H.old⟩

set_option maxHeartbeats 8000000 in
set_option maxRecDepth 100000 in
theorem romonth_no (c : Ca) (aR : Option Addr) (cR : Nat) (aD : Option Addr) (cD : Nat) (n : Int) (w : World) (hL : FactsW w) (hCc : CalAt w c aR cR aD cD)  (hf : decide (c.nr ≤ 12 ∧ c.nd ≤ 60) = true) (hS : c.Small) (hm : ¬ c.May) :
    Calls Tryd.prog 5 #[.agg #[.bool (c.o 0), .bool (c.o 1), .bool (c.o 2), .bool (c.o 3), .bool (c.o 4), .bool (c.o 5), .bool (c.o 6), .slice aR c.nr cR, .slice aD c.nd cD], .int .i64 n] w fun e w' => e = .returned (.bool true) ∧ Below w.heap.size w w' := by
  have H := ((Held.start w).add (f := factsWF) hL).add (f := calF c aR cR aD cD) hCc
  clear hL hCc
  have HF := Lib.hid hf
  have HZ := Lib.hid hS
  have NM := Lib.hid hm
  clear hf hS hm
  go_enter Tryd.func5, Tryd.ntmps5
  go_wp2_with fail
  replace H := (H.box_9 (w.heap.size) (.bool (c.o 0)) (.bool (c.o 1)) (.bool (c.o 2)) (.bool (c.o 3)) (.bool (c.o 4)) (.bool (c.o 5)) (.bool (c.o 6)) (.slice aR c.nr cR) (.slice aD c.nd cD) 26 rfl)
  (with_reducible refine (roshown_any _ (H.factsW (mt8 (mt8 (mt1 (mt1 (mt1 mh))))))).mono ?_)
  rintro e w1 ⟨rfl, hb⟩
  replace H := H.below hb
  clear hb
  have cc0 := H.cell (w.heap.size) 0 (.bool (c.o 0)) mh
  have cc1 := H.cell (w.heap.size) 1 (.bool (c.o 1)) (mt1 mh)
  have cc2 := H.cell (w.heap.size) 2 (.bool (c.o 2)) (mt1 (mt1 mh))
  have cc3 := H.cell (w.heap.size) 3 (.bool (c.o 3)) (mt1 (mt1 (mt1 mh)))
  have cc4 := H.cell (w.heap.size) 4 (.bool (c.o 4)) (mt1 (mt1 (mt1 (mt1 mh))))
  have cc5 := H.cell (w.heap.size) 5 (.bool (c.o 5)) (mt1 (mt1 (mt1 (mt1 (mt1 mh)))))
  have cc6 := H.cell (w.heap.size) 6 (.bool (c.o 6)) (mt1 (mt1 (mt1 (mt1 (mt1 (mt1 mh))))))
  have cc7 := H.cell (w.heap.size) 7 (.slice aR c.nr cR) (mt1 (mt1 (mt1 (mt1 (mt1 (mt1 (mt1 mh)))))))
  have cc8 := H.cell (w.heap.size) 8 (.slice aD c.nd cD) (mt8 mh)
  have lc := H.lt (w.heap.size) 0 (.bool (c.o 0)) mh
  go_wp2_with fail
  clear cc0 cc1 cc2 cc3 cc4 cc5 cc6 cc7 cc8 lc
  (with_reducible refine (few_any c aR cR aD cD true _ HF.out).mono ?_)
  rintro e w2 ⟨rfl, hb⟩
  replace H := H.below hb
  clear hb
  have cc0 := H.cell (w.heap.size) 0 (.bool (c.o 0)) mh
  have cc1 := H.cell (w.heap.size) 1 (.bool (c.o 1)) (mt1 mh)
  have cc2 := H.cell (w.heap.size) 2 (.bool (c.o 2)) (mt1 (mt1 mh))
  have cc3 := H.cell (w.heap.size) 3 (.bool (c.o 3)) (mt1 (mt1 (mt1 mh)))
  have cc4 := H.cell (w.heap.size) 4 (.bool (c.o 4)) (mt1 (mt1 (mt1 (mt1 mh))))
  have cc5 := H.cell (w.heap.size) 5 (.bool (c.o 5)) (mt1 (mt1 (mt1 (mt1 (mt1 mh)))))
  have cc6 := H.cell (w.heap.size) 6 (.bool (c.o 6)) (mt1 (mt1 (mt1 (mt1 (mt1 (mt1 mh))))))
  have cc7 := H.cell (w.heap.size) 7 (.slice aR c.nr cR) (mt1 (mt1 (mt1 (mt1 (mt1 (mt1 (mt1 mh)))))))
  have cc8 := H.cell (w.heap.size) 8 (.slice aD c.nd cD) (mt8 mh)
  have lc := H.lt (w.heap.size) 0 (.bool (c.o 0)) mh
  go_wp2_with fail
  clear cc0 cc1 cc2 cc3 cc4 cc5 cc6 cc7 cc8 lc
  (with_reducible refine (rcmay_any c aR cR aD cD false _ HZ.out (H.cal (mt8 (mt8 (mt1 (mt1 mh))))) ⟨fun g => absurd g (by decide), fun g => absurd g NM.out⟩).mono ?_)
  rintro e w3 ⟨rfl, hb⟩
  replace H := H.below hb
  clear hb
  go_wp2_with fail
  go_ret
  exact ⟨rfl, H.old⟩

set_option maxHeartbeats 8000000 in
set_option maxRecDepth 100000 in
theorem romonth_noday (c : Ca) (aR : Option Addr) (cR : Nat) (aD : Option Addr) (cD : Nat) (n : Int) (w : World) (hL : FactsW w) (hCc : CalAt w c aR cR aD cD)  (hf : decide (c.nr ≤ 12 ∧ c.nd ≤ 60) = true) (hS : c.Small) (hM : c.May) (hd : decide (1 ≤ n ∧ n ≤ 3652059) = false) :
    Calls Tryd.prog 5 #[.agg #[.bool (c.o 0), .bool (c.o 1), .bool (c.o 2), .bool (c.o 3), .bool (c.o 4), .bool (c.o 5), .bool (c.o 6), .slice aR c.nr cR, .slice aD c.nd cD], .int .i64 n] w fun e w' => e = .returned (.bool true) ∧ Below w.heap.size w w' := by
  have H := ((Held.start w).add (f := factsWF) hL).add (f := calF c aR cR aD cD) hCc
  clear hL hCc
  have HF := Lib.hid hf
  have HZ := Lib.hid hS
  have MM := Lib.hid hM
  have HD := Lib.hid hd
  clear hf hS hM hd
  go_enter Tryd.func5, Tryd.ntmps5
  go_wp2_with fail
  replace H := (H.box_9 (w.heap.size) (.bool (c.o 0)) (.bool (c.o 1)) (.bool (c.o 2)) (.bool (c.o 3)) (.bool (c.o 4)) (.bool (c.o 5)) (.bool (c.o 6)) (.slice aR c.nr cR) (.slice aD c.nd cD) 26 rfl)
  (with_reducible refine (roshown_any _ (H.factsW (mt8 (mt8 (mt1 (mt1 (mt1 mh))))))).mono ?_)
  rintro e w1 ⟨rfl, hb⟩
  replace H := H.below hb
  clear hb
  have cc0 := H.cell (w.heap.size) 0 (.bool (c.o 0)) mh
  have cc1 := H.cell (w.heap.size) 1 (.bool (c.o 1)) (mt1 mh)
  have cc2 := H.cell (w.heap.size) 2 (.bool (c.o 2)) (mt1 (mt1 mh))
  have cc3 := H.cell (w.heap.size) 3 (.bool (c.o 3)) (mt1 (mt1 (mt1 mh)))
  have cc4 := H.cell (w.heap.size) 4 (.bool (c.o 4)) (mt1 (mt1 (mt1 (mt1 mh))))
  have cc5 := H.cell (w.heap.size) 5 (.bool (c.o 5)) (mt1 (mt1 (mt1 (mt1 (mt1 mh)))))
  have cc6 := H.cell (w.heap.size) 6 (.bool (c.o 6)) (mt1 (mt1 (mt1 (mt1 (mt1 (mt1 mh))))))
  have cc7 := H.cell (w.heap.size) 7 (.slice aR c.nr cR) (mt1 (mt1 (mt1 (mt1 (mt1 (mt1 (mt1 mh)))))))
  have cc8 := H.cell (w.heap.size) 8 (.slice aD c.nd cD) (mt8 mh)
  have lc := H.lt (w.heap.size) 0 (.bool (c.o 0)) mh
  go_wp2_with fail
  clear cc0 cc1 cc2 cc3 cc4 cc5 cc6 cc7 cc8 lc
  (with_reducible refine (few_any c aR cR aD cD true _ HF.out).mono ?_)
  rintro e w2 ⟨rfl, hb⟩
  replace H := H.below hb
  clear hb
  have cc0 := H.cell (w.heap.size) 0 (.bool (c.o 0)) mh
  have cc1 := H.cell (w.heap.size) 1 (.bool (c.o 1)) (mt1 mh)
  have cc2 := H.cell (w.heap.size) 2 (.bool (c.o 2)) (mt1 (mt1 mh))
  have cc3 := H.cell (w.heap.size) 3 (.bool (c.o 3)) (mt1 (mt1 (mt1 mh)))
  have cc4 := H.cell (w.heap.size) 4 (.bool (c.o 4)) (mt1 (mt1 (mt1 (mt1 mh))))
  have cc5 := H.cell (w.heap.size) 5 (.bool (c.o 5)) (mt1 (mt1 (mt1 (mt1 (mt1 mh)))))
  have cc6 := H.cell (w.heap.size) 6 (.bool (c.o 6)) (mt1 (mt1 (mt1 (mt1 (mt1 (mt1 mh))))))
  have cc7 := H.cell (w.heap.size) 7 (.slice aR c.nr cR) (mt1 (mt1 (mt1 (mt1 (mt1 (mt1 (mt1 mh)))))))
  have cc8 := H.cell (w.heap.size) 8 (.slice aD c.nd cD) (mt8 mh)
  have lc := H.lt (w.heap.size) 0 (.bool (c.o 0)) mh
  go_wp2_with fail
  clear cc0 cc1 cc2 cc3 cc4 cc5 cc6 cc7 cc8 lc
  (with_reducible refine (rcmay_any c aR cR aD cD true _ HZ.out (H.cal (mt8 (mt8 (mt1 (mt1 mh))))) ⟨fun _ => MM.out, fun _ => rfl⟩).mono ?_)
  rintro e w3 ⟨rfl, hb⟩
  replace H := H.below hb
  clear hb
  have cc0 := H.cell (w.heap.size) 0 (.bool (c.o 0)) mh
  have cc1 := H.cell (w.heap.size) 1 (.bool (c.o 1)) (mt1 mh)
  have cc2 := H.cell (w.heap.size) 2 (.bool (c.o 2)) (mt1 (mt1 mh))
  have cc3 := H.cell (w.heap.size) 3 (.bool (c.o 3)) (mt1 (mt1 (mt1 mh)))
  have cc4 := H.cell (w.heap.size) 4 (.bool (c.o 4)) (mt1 (mt1 (mt1 (mt1 mh))))
  have cc5 := H.cell (w.heap.size) 5 (.bool (c.o 5)) (mt1 (mt1 (mt1 (mt1 (mt1 mh)))))
  have cc6 := H.cell (w.heap.size) 6 (.bool (c.o 6)) (mt1 (mt1 (mt1 (mt1 (mt1 (mt1 mh))))))
  have cc7 := H.cell (w.heap.size) 7 (.slice aR c.nr cR) (mt1 (mt1 (mt1 (mt1 (mt1 (mt1 (mt1 mh)))))))
  have cc8 := H.cell (w.heap.size) 8 (.slice aD c.nd cD) (mt8 mh)
  have lc := H.lt (w.heap.size) 0 (.bool (c.o 0)) mh
  go_wp2_with fail
  clear cc0 cc1 cc2 cc3 cc4 cc5 cc6 cc7 cc8 lc
  (with_reducible refine (Calls.same (rday13_is n false _ HD.out)).mono ?_)
  rintro e w4 ⟨rfl, hb⟩
  replace H := H.below hb
  clear hb
  go_wp2_with fail
  go_ret
  exact ⟨rfl, H.old⟩

set_option maxHeartbeats 8000000 in
set_option maxRecDepth 100000 in
theorem romonth_01 (c : Ca) (aR : Option Addr) (cR : Nat) (aD : Option Addr) (cD : Nat) (n a b x y f i : Int) (w : World) (hL : FactsW w) (hCc : CalAt w c aR cR aD cD) (hf : decide (c.nr ≤ 12 ∧ c.nd ≤ 60) = true) (hS : c.Small) (hM : c.May) (hd : decide (1 ≤ n ∧ n ≤ 3652059) = true) (nb : 1 ≤ n ∧ n ≤ 3652059) (bn : -9223372036854775808 ≤ n ∧ n < 9223372036854775808) (h1 : StepIs c 1 n a 0) (h2 : StepIs c (-1) n b f) (h3 : ToIs c n 2 x i) (h4 : ToIs c n 4 y f) (h5 : ToIs c n 1 a 0) (h6 : ToIs c n 3 b f) (hg : (f == 0) = false) :
    Calls Tryd.prog 5 #[.agg #[.bool (c.o 0), .bool (c.o 1), .bool (c.o 2), .bool (c.o 3), .bool (c.o 4), .bool (c.o 5), .bool (c.o 6), .slice aR c.nr cR, .slice aD c.nd cD], .int .i64 n] w fun e w' => e = .returned (.bool true) ∧ Below w.heap.size w w' := by
  have H := ((Held.start w).add (f := factsWF) hL).add (f := calF c aR cR aD cD) hCc
  clear hL hCc
  have hg2 : (f != 0) = true := by simpa using hg
  have HF := Lib.hid hf
  have HZ := Lib.hid hS
  have MM := Lib.hid hM
  have HD := Lib.hid hd
  have H1 := Lib.hid h1
  have H2 := Lib.hid h2
  have H3 := Lib.hid h3
  have H4 := Lib.hid h4
  have H5 := Lib.hid h5
  have H6 := Lib.hid h6
  clear hf hS hM hd h1 h2 h3 h4 h5 h6
  go_enter Tryd.func5, Tryd.ntmps5
  go_wp2_with fail
  replace H := (H.box_9 (w.heap.size) (.bool (c.o 0)) (.bool (c.o 1)) (.bool (c.o 2)) (.bool (c.o 3)) (.bool (c.o 4)) (.bool (c.o 5)) (.bool (c.o 6)) (.slice aR c.nr cR) (.slice aD c.nd cD) 26 rfl)
  (with_reducible refine (roshown_any _ (H.factsW (mt8 (mt8 (mt1 (mt1 (mt1 mh))))))).mono ?_)
  rintro e w1 ⟨rfl, hb⟩
  replace H := H.below hb
  clear hb
  have cc0 := H.cell (w.heap.size) 0 (.bool (c.o 0)) mh
  have cc1 := H.cell (w.heap.size) 1 (.bool (c.o 1)) (mt1 mh)
  have cc2 := H.cell (w.heap.size) 2 (.bool (c.o 2)) (mt1 (mt1 mh))
  have cc3 := H.cell (w.heap.size) 3 (.bool (c.o 3)) (mt1 (mt1 (mt1 mh)))
  have cc4 := H.cell (w.heap.size) 4 (.bool (c.o 4)) (mt1 (mt1 (mt1 (mt1 mh))))
  have cc5 := H.cell (w.heap.size) 5 (.bool (c.o 5)) (mt1 (mt1 (mt1 (mt1 (mt1 mh)))))
  have cc6 := H.cell (w.heap.size) 6 (.bool (c.o 6)) (mt1 (mt1 (mt1 (mt1 (mt1 (mt1 mh))))))
  have cc7 := H.cell (w.heap.size) 7 (.slice aR c.nr cR) (mt1 (mt1 (mt1 (mt1 (mt1 (mt1 (mt1 mh)))))))
  have cc8 := H.cell (w.heap.size) 8 (.slice aD c.nd cD) (mt8 mh)
  have lc := H.lt (w.heap.size) 0 (.bool (c.o 0)) mh
  go_wp2_with fail
  clear cc0 cc1 cc2 cc3 cc4 cc5 cc6 cc7 cc8 lc
  (with_reducible refine (few_any c aR cR aD cD true _ HF.out).mono ?_)
  rintro e w2 ⟨rfl, hb⟩
  replace H := H.below hb
  clear hb
  have cc0 := H.cell (w.heap.size) 0 (.bool (c.o 0)) mh
  have cc1 := H.cell (w.heap.size) 1 (.bool (c.o 1)) (mt1 mh)
  have cc2 := H.cell (w.heap.size) 2 (.bool (c.o 2)) (mt1 (mt1 mh))
  have cc3 := H.cell (w.heap.size) 3 (.bool (c.o 3)) (mt1 (mt1 (mt1 mh)))
  have cc4 := H.cell (w.heap.size) 4 (.bool (c.o 4)) (mt1 (mt1 (mt1 (mt1 mh))))
  have cc5 := H.cell (w.heap.size) 5 (.bool (c.o 5)) (mt1 (mt1 (mt1 (mt1 (mt1 mh)))))
  have cc6 := H.cell (w.heap.size) 6 (.bool (c.o 6)) (mt1 (mt1 (mt1 (mt1 (mt1 (mt1 mh))))))
  have cc7 := H.cell (w.heap.size) 7 (.slice aR c.nr cR) (mt1 (mt1 (mt1 (mt1 (mt1 (mt1 (mt1 mh)))))))
  have cc8 := H.cell (w.heap.size) 8 (.slice aD c.nd cD) (mt8 mh)
  have lc := H.lt (w.heap.size) 0 (.bool (c.o 0)) mh
  go_wp2_with fail
  clear cc0 cc1 cc2 cc3 cc4 cc5 cc6 cc7 cc8 lc
  (with_reducible refine (rcmay_any c aR cR aD cD true _ HZ.out (H.cal (mt8 (mt8 (mt1 (mt1 mh))))) ⟨fun _ => MM.out, fun _ => rfl⟩).mono ?_)
  rintro e w3 ⟨rfl, hb⟩
  replace H := H.below hb
  clear hb
  have cc0 := H.cell (w.heap.size) 0 (.bool (c.o 0)) mh
  have cc1 := H.cell (w.heap.size) 1 (.bool (c.o 1)) (mt1 mh)
  have cc2 := H.cell (w.heap.size) 2 (.bool (c.o 2)) (mt1 (mt1 mh))
  have cc3 := H.cell (w.heap.size) 3 (.bool (c.o 3)) (mt1 (mt1 (mt1 mh)))
  have cc4 := H.cell (w.heap.size) 4 (.bool (c.o 4)) (mt1 (mt1 (mt1 (mt1 mh))))
  have cc5 := H.cell (w.heap.size) 5 (.bool (c.o 5)) (mt1 (mt1 (mt1 (mt1 (mt1 mh)))))
  have cc6 := H.cell (w.heap.size) 6 (.bool (c.o 6)) (mt1 (mt1 (mt1 (mt1 (mt1 (mt1 mh))))))
  have cc7 := H.cell (w.heap.size) 7 (.slice aR c.nr cR) (mt1 (mt1 (mt1 (mt1 (mt1 (mt1 (mt1 mh)))))))
  have cc8 := H.cell (w.heap.size) 8 (.slice aD c.nd cD) (mt8 mh)
  have lc := H.lt (w.heap.size) 0 (.bool (c.o 0)) mh
  go_wp2_with fail
  clear cc0 cc1 cc2 cc3 cc4 cc5 cc6 cc7 cc8 lc
  (with_reducible refine (Calls.same (rday13_is n true _ HD.out)).mono ?_)
  rintro e w4 ⟨rfl, hb⟩
  replace H := H.below hb
  clear hb
  have cc0 := H.cell (w.heap.size) 0 (.bool (c.o 0)) mh
  have cc1 := H.cell (w.heap.size) 1 (.bool (c.o 1)) (mt1 mh)
  have cc2 := H.cell (w.heap.size) 2 (.bool (c.o 2)) (mt1 (mt1 mh))
  have cc3 := H.cell (w.heap.size) 3 (.bool (c.o 3)) (mt1 (mt1 (mt1 mh)))
  have cc4 := H.cell (w.heap.size) 4 (.bool (c.o 4)) (mt1 (mt1 (mt1 (mt1 mh))))
  have cc5 := H.cell (w.heap.size) 5 (.bool (c.o 5)) (mt1 (mt1 (mt1 (mt1 (mt1 mh)))))
  have cc6 := H.cell (w.heap.size) 6 (.bool (c.o 6)) (mt1 (mt1 (mt1 (mt1 (mt1 (mt1 mh))))))
  have cc7 := H.cell (w.heap.size) 7 (.slice aR c.nr cR) (mt1 (mt1 (mt1 (mt1 (mt1 (mt1 (mt1 mh)))))))
  have cc8 := H.cell (w.heap.size) 8 (.slice aD c.nd cD) (mt8 mh)
  have lc := H.lt (w.heap.size) 0 (.bool (c.o 0)) mh
  go_wp2_with fail
  clear cc0 cc1 cc2 cc3 cc4 cc5 cc6 cc7 cc8 lc
  (with_reducible refine (next_is c aR cR aD cD n a 0 _ (H.factsW (mt8 (mt8 (mt1 (mt1 (mt1 mh)))))) MM.out (H.cal (mt8 (mt8 (mt1 (mt1 mh))))) bn H1.out).mono ?_)
  rintro e w5 ⟨rfl, hb⟩
  replace H := H.below hb
  clear hb
  have cc0 := H.cell (w.heap.size) 0 (.bool (c.o 0)) mh
  have cc1 := H.cell (w.heap.size) 1 (.bool (c.o 1)) (mt1 mh)
  have cc2 := H.cell (w.heap.size) 2 (.bool (c.o 2)) (mt1 (mt1 mh))
  have cc3 := H.cell (w.heap.size) 3 (.bool (c.o 3)) (mt1 (mt1 (mt1 mh)))
  have cc4 := H.cell (w.heap.size) 4 (.bool (c.o 4)) (mt1 (mt1 (mt1 (mt1 mh))))
  have cc5 := H.cell (w.heap.size) 5 (.bool (c.o 5)) (mt1 (mt1 (mt1 (mt1 (mt1 mh)))))
  have cc6 := H.cell (w.heap.size) 6 (.bool (c.o 6)) (mt1 (mt1 (mt1 (mt1 (mt1 (mt1 mh))))))
  have cc7 := H.cell (w.heap.size) 7 (.slice aR c.nr cR) (mt1 (mt1 (mt1 (mt1 (mt1 (mt1 (mt1 mh)))))))
  have cc8 := H.cell (w.heap.size) 8 (.slice aD c.nd cD) (mt8 mh)
  have lc := H.lt (w.heap.size) 0 (.bool (c.o 0)) mh
  go_wp2_with fail
  clear cc0 cc1 cc2 cc3 cc4 cc5 cc6 cc7 cc8 lc
  (with_reducible refine (prev_is c aR cR aD cD n b f _ (H.factsW (mt8 (mt8 (mt1 (mt1 (mt1 mh)))))) MM.out (H.cal (mt8 (mt8 (mt1 (mt1 mh))))) bn H2.out).mono ?_)
  rintro e w6 ⟨rfl, hb⟩
  replace H := H.below hb
  clear hb
  have cc0 := H.cell (w.heap.size) 0 (.bool (c.o 0)) mh
  have cc1 := H.cell (w.heap.size) 1 (.bool (c.o 1)) (mt1 mh)
  have cc2 := H.cell (w.heap.size) 2 (.bool (c.o 2)) (mt1 (mt1 mh))
  have cc3 := H.cell (w.heap.size) 3 (.bool (c.o 3)) (mt1 (mt1 (mt1 mh)))
  have cc4 := H.cell (w.heap.size) 4 (.bool (c.o 4)) (mt1 (mt1 (mt1 (mt1 mh))))
  have cc5 := H.cell (w.heap.size) 5 (.bool (c.o 5)) (mt1 (mt1 (mt1 (mt1 (mt1 mh)))))
  have cc6 := H.cell (w.heap.size) 6 (.bool (c.o 6)) (mt1 (mt1 (mt1 (mt1 (mt1 (mt1 mh))))))
  have cc7 := H.cell (w.heap.size) 7 (.slice aR c.nr cR) (mt1 (mt1 (mt1 (mt1 (mt1 (mt1 (mt1 mh)))))))
  have cc8 := H.cell (w.heap.size) 8 (.slice aD c.nd cD) (mt8 mh)
  have lc := H.lt (w.heap.size) 0 (.bool (c.o 0)) mh
  go_wp2_with fail
  clear cc0 cc1 cc2 cc3 cc4 cc5 cc6 cc7 cc8 lc
  (with_reducible refine (to_is14 c aR cR aD cD n 2 x i _ (H.factsW (mt8 (mt8 (mt1 (mt1 (mt1 mh)))))) MM.out (H.cal (mt8 (mt8 (mt1 (mt1 mh))))) bn H3.out).mono ?_)
  rintro e w7 ⟨rfl, hb⟩
  replace H := H.below hb
  clear hb
  have cc0 := H.cell (w.heap.size) 0 (.bool (c.o 0)) mh
  have cc1 := H.cell (w.heap.size) 1 (.bool (c.o 1)) (mt1 mh)
  have cc2 := H.cell (w.heap.size) 2 (.bool (c.o 2)) (mt1 (mt1 mh))
  have cc3 := H.cell (w.heap.size) 3 (.bool (c.o 3)) (mt1 (mt1 (mt1 mh)))
  have cc4 := H.cell (w.heap.size) 4 (.bool (c.o 4)) (mt1 (mt1 (mt1 (mt1 mh))))
  have cc5 := H.cell (w.heap.size) 5 (.bool (c.o 5)) (mt1 (mt1 (mt1 (mt1 (mt1 mh)))))
  have cc6 := H.cell (w.heap.size) 6 (.bool (c.o 6)) (mt1 (mt1 (mt1 (mt1 (mt1 (mt1 mh))))))
  have cc7 := H.cell (w.heap.size) 7 (.slice aR c.nr cR) (mt1 (mt1 (mt1 (mt1 (mt1 (mt1 (mt1 mh)))))))
  have cc8 := H.cell (w.heap.size) 8 (.slice aD c.nd cD) (mt8 mh)
  have lc := H.lt (w.heap.size) 0 (.bool (c.o 0)) mh
  go_wp2_with fail
  clear cc0 cc1 cc2 cc3 cc4 cc5 cc6 cc7 cc8 lc
  (with_reducible refine (to_is14 c aR cR aD cD n 4 y f _ (H.factsW (mt8 (mt8 (mt1 (mt1 (mt1 mh)))))) MM.out (H.cal (mt8 (mt8 (mt1 (mt1 mh))))) bn H4.out).mono ?_)
  rintro e w8 ⟨rfl, hb⟩
  replace H := H.below hb
  clear hb
  have cc0 := H.cell (w.heap.size) 0 (.bool (c.o 0)) mh
  have cc1 := H.cell (w.heap.size) 1 (.bool (c.o 1)) (mt1 mh)
  have cc2 := H.cell (w.heap.size) 2 (.bool (c.o 2)) (mt1 (mt1 mh))
  have cc3 := H.cell (w.heap.size) 3 (.bool (c.o 3)) (mt1 (mt1 (mt1 mh)))
  have cc4 := H.cell (w.heap.size) 4 (.bool (c.o 4)) (mt1 (mt1 (mt1 (mt1 mh))))
  have cc5 := H.cell (w.heap.size) 5 (.bool (c.o 5)) (mt1 (mt1 (mt1 (mt1 (mt1 mh)))))
  have cc6 := H.cell (w.heap.size) 6 (.bool (c.o 6)) (mt1 (mt1 (mt1 (mt1 (mt1 (mt1 mh))))))
  have cc7 := H.cell (w.heap.size) 7 (.slice aR c.nr cR) (mt1 (mt1 (mt1 (mt1 (mt1 (mt1 (mt1 mh)))))))
  have cc8 := H.cell (w.heap.size) 8 (.slice aD c.nd cD) (mt8 mh)
  have lc := H.lt (w.heap.size) 0 (.bool (c.o 0)) mh
  go_wp2_with fail
  clear cc0 cc1 cc2 cc3 cc4 cc5 cc6 cc7 cc8 lc
  (with_reducible refine (to_is14 c aR cR aD cD n 1 a 0 _ (H.factsW (mt8 (mt8 (mt1 (mt1 (mt1 mh)))))) MM.out (H.cal (mt8 (mt8 (mt1 (mt1 mh))))) bn H5.out).mono ?_)
  rintro e w9 ⟨rfl, hb⟩
  replace H := H.below hb
  clear hb
  have cc0 := H.cell (w.heap.size) 0 (.bool (c.o 0)) mh
  have cc1 := H.cell (w.heap.size) 1 (.bool (c.o 1)) (mt1 mh)
  have cc2 := H.cell (w.heap.size) 2 (.bool (c.o 2)) (mt1 (mt1 mh))
  have cc3 := H.cell (w.heap.size) 3 (.bool (c.o 3)) (mt1 (mt1 (mt1 mh)))
  have cc4 := H.cell (w.heap.size) 4 (.bool (c.o 4)) (mt1 (mt1 (mt1 (mt1 mh))))
  have cc5 := H.cell (w.heap.size) 5 (.bool (c.o 5)) (mt1 (mt1 (mt1 (mt1 (mt1 mh)))))
  have cc6 := H.cell (w.heap.size) 6 (.bool (c.o 6)) (mt1 (mt1 (mt1 (mt1 (mt1 (mt1 mh))))))
  have cc7 := H.cell (w.heap.size) 7 (.slice aR c.nr cR) (mt1 (mt1 (mt1 (mt1 (mt1 (mt1 (mt1 mh)))))))
  have cc8 := H.cell (w.heap.size) 8 (.slice aD c.nd cD) (mt8 mh)
  have lc := H.lt (w.heap.size) 0 (.bool (c.o 0)) mh
  go_wp2_with fail
  clear cc0 cc1 cc2 cc3 cc4 cc5 cc6 cc7 cc8 lc
  (with_reducible refine (to_is14 c aR cR aD cD n 3 b f _ (H.factsW (mt8 (mt8 (mt1 (mt1 (mt1 mh)))))) MM.out (H.cal (mt8 (mt8 (mt1 (mt1 mh))))) bn H6.out).mono ?_)
  rintro e w10 ⟨rfl, hb⟩
  replace H := H.below hb
  clear hb
  go_wp2_with fail
  go_ret
  exact ⟨rfl, H.old⟩

set_option maxHeartbeats 8000000 in
set_option maxRecDepth 100000 in
theorem romonth_10 (c : Ca) (aR : Option Addr) (cR : Nat) (aD : Option Addr) (cD : Nat) (n a b x y e j : Int) (w : World) (hL : FactsW w) (hCc : CalAt w c aR cR aD cD) (hf : decide (c.nr ≤ 12 ∧ c.nd ≤ 60) = true) (hS : c.Small) (hM : c.May) (hd : decide (1 ≤ n ∧ n ≤ 3652059) = true) (nb : 1 ≤ n ∧ n ≤ 3652059) (bn : -9223372036854775808 ≤ n ∧ n < 9223372036854775808) (h1 : StepIs c 1 n a e) (h2 : StepIs c (-1) n b 0) (h3 : ToIs c n 2 x e) (h4 : ToIs c n 4 y j) (h5 : ToIs c n 1 a e) (h6 : ToIs c n 3 b 0) (he : (e == 0) = false) :
    Calls Tryd.prog 5 #[.agg #[.bool (c.o 0), .bool (c.o 1), .bool (c.o 2), .bool (c.o 3), .bool (c.o 4), .bool (c.o 5), .bool (c.o 6), .slice aR c.nr cR, .slice aD c.nd cD], .int .i64 n] w fun e w' => e = .returned (.bool true) ∧ Below w.heap.size w w' := by
  have H := ((Held.start w).add (f := factsWF) hL).add (f := calF c aR cR aD cD) hCc
  clear hL hCc
  have he2 : (e != 0) = true := by simpa using he
  have HF := Lib.hid hf
  have HZ := Lib.hid hS
  have MM := Lib.hid hM
  have HD := Lib.hid hd
  have H1 := Lib.hid h1
  have H2 := Lib.hid h2
  have H3 := Lib.hid h3
  have H4 := Lib.hid h4
  have H5 := Lib.hid h5
  have H6 := Lib.hid h6
  clear hf hS hM hd h1 h2 h3 h4 h5 h6
  go_enter Tryd.func5, Tryd.ntmps5
  go_wp2_with fail
  replace H := (H.box_9 (w.heap.size) (.bool (c.o 0)) (.bool (c.o 1)) (.bool (c.o 2)) (.bool (c.o 3)) (.bool (c.o 4)) (.bool (c.o 5)) (.bool (c.o 6)) (.slice aR c.nr cR) (.slice aD c.nd cD) 26 rfl)
  (with_reducible refine (roshown_any _ (H.factsW (mt8 (mt8 (mt1 (mt1 (mt1 mh))))))).mono ?_)
  rintro e w1 ⟨rfl, hb⟩
  replace H := H.below hb
  clear hb
  have cc0 := H.cell (w.heap.size) 0 (.bool (c.o 0)) mh
  have cc1 := H.cell (w.heap.size) 1 (.bool (c.o 1)) (mt1 mh)
  have cc2 := H.cell (w.heap.size) 2 (.bool (c.o 2)) (mt1 (mt1 mh))
  have cc3 := H.cell (w.heap.size) 3 (.bool (c.o 3)) (mt1 (mt1 (mt1 mh)))
  have cc4 := H.cell (w.heap.size) 4 (.bool (c.o 4)) (mt1 (mt1 (mt1 (mt1 mh))))
  have cc5 := H.cell (w.heap.size) 5 (.bool (c.o 5)) (mt1 (mt1 (mt1 (mt1 (mt1 mh)))))
  have cc6 := H.cell (w.heap.size) 6 (.bool (c.o 6)) (mt1 (mt1 (mt1 (mt1 (mt1 (mt1 mh))))))
  have cc7 := H.cell (w.heap.size) 7 (.slice aR c.nr cR) (mt1 (mt1 (mt1 (mt1 (mt1 (mt1 (mt1 mh)))))))
  have cc8 := H.cell (w.heap.size) 8 (.slice aD c.nd cD) (mt8 mh)
  have lc := H.lt (w.heap.size) 0 (.bool (c.o 0)) mh
  go_wp2_with fail
  clear cc0 cc1 cc2 cc3 cc4 cc5 cc6 cc7 cc8 lc
  (with_reducible refine (few_any c aR cR aD cD true _ HF.out).mono ?_)
  rintro e w2 ⟨rfl, hb⟩
  replace H := H.below hb
  clear hb
  have cc0 := H.cell (w.heap.size) 0 (.bool (c.o 0)) mh
  have cc1 := H.cell (w.heap.size) 1 (.bool (c.o 1)) (mt1 mh)
  have cc2 := H.cell (w.heap.size) 2 (.bool (c.o 2)) (mt1 (mt1 mh))
  have cc3 := H.cell (w.heap.size) 3 (.bool (c.o 3)) (mt1 (mt1 (mt1 mh)))
  have cc4 := H.cell (w.heap.size) 4 (.bool (c.o 4)) (mt1 (mt1 (mt1 (mt1 mh))))
  have cc5 := H.cell (w.heap.size) 5 (.bool (c.o 5)) (mt1 (mt1 (mt1 (mt1 (mt1 mh)))))
  have cc6 := H.cell (w.heap.size) 6 (.bool (c.o 6)) (mt1 (mt1 (mt1 (mt1 (mt1 (mt1 mh))))))
  have cc7 := H.cell (w.heap.size) 7 (.slice aR c.nr cR) (mt1 (mt1 (mt1 (mt1 (mt1 (mt1 (mt1 mh)))))))
  have cc8 := H.cell (w.heap.size) 8 (.slice aD c.nd cD) (mt8 mh)
  have lc := H.lt (w.heap.size) 0 (.bool (c.o 0)) mh
  go_wp2_with fail
  clear cc0 cc1 cc2 cc3 cc4 cc5 cc6 cc7 cc8 lc
  (with_reducible refine (rcmay_any c aR cR aD cD true _ HZ.out (H.cal (mt8 (mt8 (mt1 (mt1 mh))))) ⟨fun _ => MM.out, fun _ => rfl⟩).mono ?_)
  rintro e w3 ⟨rfl, hb⟩
  replace H := H.below hb
  clear hb
  have cc0 := H.cell (w.heap.size) 0 (.bool (c.o 0)) mh
  have cc1 := H.cell (w.heap.size) 1 (.bool (c.o 1)) (mt1 mh)
  have cc2 := H.cell (w.heap.size) 2 (.bool (c.o 2)) (mt1 (mt1 mh))
  have cc3 := H.cell (w.heap.size) 3 (.bool (c.o 3)) (mt1 (mt1 (mt1 mh)))
  have cc4 := H.cell (w.heap.size) 4 (.bool (c.o 4)) (mt1 (mt1 (mt1 (mt1 mh))))
  have cc5 := H.cell (w.heap.size) 5 (.bool (c.o 5)) (mt1 (mt1 (mt1 (mt1 (mt1 mh)))))
  have cc6 := H.cell (w.heap.size) 6 (.bool (c.o 6)) (mt1 (mt1 (mt1 (mt1 (mt1 (mt1 mh))))))
  have cc7 := H.cell (w.heap.size) 7 (.slice aR c.nr cR) (mt1 (mt1 (mt1 (mt1 (mt1 (mt1 (mt1 mh)))))))
  have cc8 := H.cell (w.heap.size) 8 (.slice aD c.nd cD) (mt8 mh)
  have lc := H.lt (w.heap.size) 0 (.bool (c.o 0)) mh
  go_wp2_with fail
  clear cc0 cc1 cc2 cc3 cc4 cc5 cc6 cc7 cc8 lc
  (with_reducible refine (Calls.same (rday13_is n true _ HD.out)).mono ?_)
  rintro e w4 ⟨rfl, hb⟩
  replace H := H.below hb
  clear hb
  have cc0 := H.cell (w.heap.size) 0 (.bool (c.o 0)) mh
  have cc1 := H.cell (w.heap.size) 1 (.bool (c.o 1)) (mt1 mh)
  have cc2 := H.cell (w.heap.size) 2 (.bool (c.o 2)) (mt1 (mt1 mh))
  have cc3 := H.cell (w.heap.size) 3 (.bool (c.o 3)) (mt1 (mt1 (mt1 mh)))
  have cc4 := H.cell (w.heap.size) 4 (.bool (c.o 4)) (mt1 (mt1 (mt1 (mt1 mh))))
  have cc5 := H.cell (w.heap.size) 5 (.bool (c.o 5)) (mt1 (mt1 (mt1 (mt1 (mt1 mh)))))
  have cc6 := H.cell (w.heap.size) 6 (.bool (c.o 6)) (mt1 (mt1 (mt1 (mt1 (mt1 (mt1 mh))))))
  have cc7 := H.cell (w.heap.size) 7 (.slice aR c.nr cR) (mt1 (mt1 (mt1 (mt1 (mt1 (mt1 (mt1 mh)))))))
  have cc8 := H.cell (w.heap.size) 8 (.slice aD c.nd cD) (mt8 mh)
  have lc := H.lt (w.heap.size) 0 (.bool (c.o 0)) mh
  go_wp2_with fail
  clear cc0 cc1 cc2 cc3 cc4 cc5 cc6 cc7 cc8 lc
  (with_reducible refine (next_is c aR cR aD cD n a e _ (H.factsW (mt8 (mt8 (mt1 (mt1 (mt1 mh)))))) MM.out (H.cal (mt8 (mt8 (mt1 (mt1 mh))))) bn H1.out).mono ?_)
  rintro e w5 ⟨rfl, hb⟩
  replace H := H.below hb
  clear hb
  have cc0 := H.cell (w.heap.size) 0 (.bool (c.o 0)) mh
  have cc1 := H.cell (w.heap.size) 1 (.bool (c.o 1)) (mt1 mh)
  have cc2 := H.cell (w.heap.size) 2 (.bool (c.o 2)) (mt1 (mt1 mh))
  have cc3 := H.cell (w.heap.size) 3 (.bool (c.o 3)) (mt1 (mt1 (mt1 mh)))
  have cc4 := H.cell (w.heap.size) 4 (.bool (c.o 4)) (mt1 (mt1 (mt1 (mt1 mh))))
  have cc5 := H.cell (w.heap.size) 5 (.bool (c.o 5)) (mt1 (mt1 (mt1 (mt1 (mt1 mh)))))
  have cc6 := H.cell (w.heap.size) 6 (.bool (c.o 6)) (mt1 (mt1 (mt1 (mt1 (mt1 (mt1 mh))))))
  have cc7 := H.cell (w.heap.size) 7 (.slice aR c.nr cR) (mt1 (mt1 (mt1 (mt1 (mt1 (mt1 (mt1 mh)))))))
  have cc8 := H.cell (w.heap.size) 8 (.slice aD c.nd cD) (mt8 mh)
  have lc := H.lt (w.heap.size) 0 (.bool (c.o 0)) mh
  go_wp2_with fail
  clear cc0 cc1 cc2 cc3 cc4 cc5 cc6 cc7 cc8 lc
  (with_reducible refine (prev_is c aR cR aD cD n b 0 _ (H.factsW (mt8 (mt8 (mt1 (mt1 (mt1 mh)))))) MM.out (H.cal (mt8 (mt8 (mt1 (mt1 mh))))) bn H2.out).mono ?_)
  rintro e w6 ⟨rfl, hb⟩
  replace H := H.below hb
  clear hb
  have cc0 := H.cell (w.heap.size) 0 (.bool (c.o 0)) mh
  have cc1 := H.cell (w.heap.size) 1 (.bool (c.o 1)) (mt1 mh)
  have cc2 := H.cell (w.heap.size) 2 (.bool (c.o 2)) (mt1 (mt1 mh))
  have cc3 := H.cell (w.heap.size) 3 (.bool (c.o 3)) (mt1 (mt1 (mt1 mh)))
  have cc4 := H.cell (w.heap.size) 4 (.bool (c.o 4)) (mt1 (mt1 (mt1 (mt1 mh))))
  have cc5 := H.cell (w.heap.size) 5 (.bool (c.o 5)) (mt1 (mt1 (mt1 (mt1 (mt1 mh)))))
  have cc6 := H.cell (w.heap.size) 6 (.bool (c.o 6)) (mt1 (mt1 (mt1 (mt1 (mt1 (mt1 mh))))))
  have cc7 := H.cell (w.heap.size) 7 (.slice aR c.nr cR) (mt1 (mt1 (mt1 (mt1 (mt1 (mt1 (mt1 mh)))))))
  have cc8 := H.cell (w.heap.size) 8 (.slice aD c.nd cD) (mt8 mh)
  have lc := H.lt (w.heap.size) 0 (.bool (c.o 0)) mh
  go_wp2_with fail
  clear cc0 cc1 cc2 cc3 cc4 cc5 cc6 cc7 cc8 lc
  (with_reducible refine (to_is14 c aR cR aD cD n 2 x e _ (H.factsW (mt8 (mt8 (mt1 (mt1 (mt1 mh)))))) MM.out (H.cal (mt8 (mt8 (mt1 (mt1 mh))))) bn H3.out).mono ?_)
  rintro e w7 ⟨rfl, hb⟩
  replace H := H.below hb
  clear hb
  have cc0 := H.cell (w.heap.size) 0 (.bool (c.o 0)) mh
  have cc1 := H.cell (w.heap.size) 1 (.bool (c.o 1)) (mt1 mh)
  have cc2 := H.cell (w.heap.size) 2 (.bool (c.o 2)) (mt1 (mt1 mh))
  have cc3 := H.cell (w.heap.size) 3 (.bool (c.o 3)) (mt1 (mt1 (mt1 mh)))
  have cc4 := H.cell (w.heap.size) 4 (.bool (c.o 4)) (mt1 (mt1 (mt1 (mt1 mh))))
  have cc5 := H.cell (w.heap.size) 5 (.bool (c.o 5)) (mt1 (mt1 (mt1 (mt1 (mt1 mh)))))
  have cc6 := H.cell (w.heap.size) 6 (.bool (c.o 6)) (mt1 (mt1 (mt1 (mt1 (mt1 (mt1 mh))))))
  have cc7 := H.cell (w.heap.size) 7 (.slice aR c.nr cR) (mt1 (mt1 (mt1 (mt1 (mt1 (mt1 (mt1 mh)))))))
  have cc8 := H.cell (w.heap.size) 8 (.slice aD c.nd cD) (mt8 mh)
  have lc := H.lt (w.heap.size) 0 (.bool (c.o 0)) mh
  go_wp2_with fail
  clear cc0 cc1 cc2 cc3 cc4 cc5 cc6 cc7 cc8 lc
  (with_reducible refine (to_is14 c aR cR aD cD n 4 y j _ (H.factsW (mt8 (mt8 (mt1 (mt1 (mt1 mh)))))) MM.out (H.cal (mt8 (mt8 (mt1 (mt1 mh))))) bn H4.out).mono ?_)
  rintro e w8 ⟨rfl, hb⟩
  replace H := H.below hb
  clear hb
  have cc0 := H.cell (w.heap.size) 0 (.bool (c.o 0)) mh
  have cc1 := H.cell (w.heap.size) 1 (.bool (c.o 1)) (mt1 mh)
  have cc2 := H.cell (w.heap.size) 2 (.bool (c.o 2)) (mt1 (mt1 mh))
  have cc3 := H.cell (w.heap.size) 3 (.bool (c.o 3)) (mt1 (mt1 (mt1 mh)))
  have cc4 := H.cell (w.heap.size) 4 (.bool (c.o 4)) (mt1 (mt1 (mt1 (mt1 mh))))
  have cc5 := H.cell (w.heap.size) 5 (.bool (c.o 5)) (mt1 (mt1 (mt1 (mt1 (mt1 mh)))))
  have cc6 := H.cell (w.heap.size) 6 (.bool (c.o 6)) (mt1 (mt1 (mt1 (mt1 (mt1 (mt1 mh))))))
  have cc7 := H.cell (w.heap.size) 7 (.slice aR c.nr cR) (mt1 (mt1 (mt1 (mt1 (mt1 (mt1 (mt1 mh)))))))
  have cc8 := H.cell (w.heap.size) 8 (.slice aD c.nd cD) (mt8 mh)
  have lc := H.lt (w.heap.size) 0 (.bool (c.o 0)) mh
  go_wp2_with fail
  clear cc0 cc1 cc2 cc3 cc4 cc5 cc6 cc7 cc8 lc
  (with_reducible refine (to_is14 c aR cR aD cD n 1 a e _ (H.factsW (mt8 (mt8 (mt1 (mt1 (mt1 mh)))))) MM.out (H.cal (mt8 (mt8 (mt1 (mt1 mh))))) bn H5.out).mono ?_)
  rintro e w9 ⟨rfl, hb⟩
  replace H := H.below hb
  clear hb
  have cc0 := H.cell (w.heap.size) 0 (.bool (c.o 0)) mh
  have cc1 := H.cell (w.heap.size) 1 (.bool (c.o 1)) (mt1 mh)
  have cc2 := H.cell (w.heap.size) 2 (.bool (c.o 2)) (mt1 (mt1 mh))
  have cc3 := H.cell (w.heap.size) 3 (.bool (c.o 3)) (mt1 (mt1 (mt1 mh)))
  have cc4 := H.cell (w.heap.size) 4 (.bool (c.o 4)) (mt1 (mt1 (mt1 (mt1 mh))))
  have cc5 := H.cell (w.heap.size) 5 (.bool (c.o 5)) (mt1 (mt1 (mt1 (mt1 (mt1 mh)))))
  have cc6 := H.cell (w.heap.size) 6 (.bool (c.o 6)) (mt1 (mt1 (mt1 (mt1 (mt1 (mt1 mh))))))
  have cc7 := H.cell (w.heap.size) 7 (.slice aR c.nr cR) (mt1 (mt1 (mt1 (mt1 (mt1 (mt1 (mt1 mh)))))))
  have cc8 := H.cell (w.heap.size) 8 (.slice aD c.nd cD) (mt8 mh)
  have lc := H.lt (w.heap.size) 0 (.bool (c.o 0)) mh
  go_wp2_with fail
  clear cc0 cc1 cc2 cc3 cc4 cc5 cc6 cc7 cc8 lc
  (with_reducible refine (to_is14 c aR cR aD cD n 3 b 0 _ (H.factsW (mt8 (mt8 (mt1 (mt1 (mt1 mh)))))) MM.out (H.cal (mt8 (mt8 (mt1 (mt1 mh))))) bn H6.out).mono ?_)
  rintro e w10 ⟨rfl, hb⟩
  replace H := H.below hb
  clear hb
  go_wp2_with fail
  go_ret
  exact ⟨rfl, H.old⟩

set_option maxHeartbeats 8000000 in
set_option maxRecDepth 100000 in
theorem romonth_11 (c : Ca) (aR : Option Addr) (cR : Nat) (aD : Option Addr) (cD : Nat) (n a b x y e f : Int) (w : World) (hL : FactsW w) (hCc : CalAt w c aR cR aD cD) (hf : decide (c.nr ≤ 12 ∧ c.nd ≤ 60) = true) (hS : c.Small) (hM : c.May) (hd : decide (1 ≤ n ∧ n ≤ 3652059) = true) (nb : 1 ≤ n ∧ n ≤ 3652059) (bn : -9223372036854775808 ≤ n ∧ n < 9223372036854775808) (h1 : StepIs c 1 n a e) (h2 : StepIs c (-1) n b f) (h3 : ToIs c n 2 x e) (h4 : ToIs c n 4 y f) (h5 : ToIs c n 1 a e) (h6 : ToIs c n 3 b f) (he : (e == 0) = false) (hg : (f == 0) = false) :
    Calls Tryd.prog 5 #[.agg #[.bool (c.o 0), .bool (c.o 1), .bool (c.o 2), .bool (c.o 3), .bool (c.o 4), .bool (c.o 5), .bool (c.o 6), .slice aR c.nr cR, .slice aD c.nd cD], .int .i64 n] w fun e w' => e = .returned (.bool true) ∧ Below w.heap.size w w' := by
  have H := ((Held.start w).add (f := factsWF) hL).add (f := calF c aR cR aD cD) hCc
  clear hL hCc
  have he2 : (e != 0) = true := by simpa using he
  have hg2 : (f != 0) = true := by simpa using hg
  have HF := Lib.hid hf
  have HZ := Lib.hid hS
  have MM := Lib.hid hM
  have HD := Lib.hid hd
  have H1 := Lib.hid h1
  have H2 := Lib.hid h2
  have H3 := Lib.hid h3
  have H4 := Lib.hid h4
  have H5 := Lib.hid h5
  have H6 := Lib.hid h6
  clear hf hS hM hd h1 h2 h3 h4 h5 h6
  go_enter Tryd.func5, Tryd.ntmps5
  go_wp2_with fail
  replace H := (H.box_9 (w.heap.size) (.bool (c.o 0)) (.bool (c.o 1)) (.bool (c.o 2)) (.bool (c.o 3)) (.bool (c.o 4)) (.bool (c.o 5)) (.bool (c.o 6)) (.slice aR c.nr cR) (.slice aD c.nd cD) 26 rfl)
  (with_reducible refine (roshown_any _ (H.factsW (mt8 (mt8 (mt1 (mt1 (mt1 mh))))))).mono ?_)
  rintro e w1 ⟨rfl, hb⟩
  replace H := H.below hb
  clear hb
  have cc0 := H.cell (w.heap.size) 0 (.bool (c.o 0)) mh
  have cc1 := H.cell (w.heap.size) 1 (.bool (c.o 1)) (mt1 mh)
  have cc2 := H.cell (w.heap.size) 2 (.bool (c.o 2)) (mt1 (mt1 mh))
  have cc3 := H.cell (w.heap.size) 3 (.bool (c.o 3)) (mt1 (mt1 (mt1 mh)))
  have cc4 := H.cell (w.heap.size) 4 (.bool (c.o 4)) (mt1 (mt1 (mt1 (mt1 mh))))
  have cc5 := H.cell (w.heap.size) 5 (.bool (c.o 5)) (mt1 (mt1 (mt1 (mt1 (mt1 mh)))))
  have cc6 := H.cell (w.heap.size) 6 (.bool (c.o 6)) (mt1 (mt1 (mt1 (mt1 (mt1 (mt1 mh))))))
  have cc7 := H.cell (w.heap.size) 7 (.slice aR c.nr cR) (mt1 (mt1 (mt1 (mt1 (mt1 (mt1 (mt1 mh)))))))
  have cc8 := H.cell (w.heap.size) 8 (.slice aD c.nd cD) (mt8 mh)
  have lc := H.lt (w.heap.size) 0 (.bool (c.o 0)) mh
  go_wp2_with fail
  clear cc0 cc1 cc2 cc3 cc4 cc5 cc6 cc7 cc8 lc
  (with_reducible refine (few_any c aR cR aD cD true _ HF.out).mono ?_)
  rintro e w2 ⟨rfl, hb⟩
  replace H := H.below hb
  clear hb
  have cc0 := H.cell (w.heap.size) 0 (.bool (c.o 0)) mh
  have cc1 := H.cell (w.heap.size) 1 (.bool (c.o 1)) (mt1 mh)
  have cc2 := H.cell (w.heap.size) 2 (.bool (c.o 2)) (mt1 (mt1 mh))
  have cc3 := H.cell (w.heap.size) 3 (.bool (c.o 3)) (mt1 (mt1 (mt1 mh)))
  have cc4 := H.cell (w.heap.size) 4 (.bool (c.o 4)) (mt1 (mt1 (mt1 (mt1 mh))))
  have cc5 := H.cell (w.heap.size) 5 (.bool (c.o 5)) (mt1 (mt1 (mt1 (mt1 (mt1 mh)))))
  have cc6 := H.cell (w.heap.size) 6 (.bool (c.o 6)) (mt1 (mt1 (mt1 (mt1 (mt1 (mt1 mh))))))
  have cc7 := H.cell (w.heap.size) 7 (.slice aR c.nr cR) (mt1 (mt1 (mt1 (mt1 (mt1 (mt1 (mt1 mh)))))))
  have cc8 := H.cell (w.heap.size) 8 (.slice aD c.nd cD) (mt8 mh)
  have lc := H.lt (w.heap.size) 0 (.bool (c.o 0)) mh
  go_wp2_with fail
  clear cc0 cc1 cc2 cc3 cc4 cc5 cc6 cc7 cc8 lc
  (with_reducible refine (rcmay_any c aR cR aD cD true _ HZ.out (H.cal (mt8 (mt8 (mt1 (mt1 mh))))) ⟨fun _ => MM.out, fun _ => rfl⟩).mono ?_)
  rintro e w3 ⟨rfl, hb⟩
  replace H := H.below hb
  clear hb
  have cc0 := H.cell (w.heap.size) 0 (.bool (c.o 0)) mh
  have cc1 := H.cell (w.heap.size) 1 (.bool (c.o 1)) (mt1 mh)
  have cc2 := H.cell (w.heap.size) 2 (.bool (c.o 2)) (mt1 (mt1 mh))
  have cc3 := H.cell (w.heap.size) 3 (.bool (c.o 3)) (mt1 (mt1 (mt1 mh)))
  have cc4 := H.cell (w.heap.size) 4 (.bool (c.o 4)) (mt1 (mt1 (mt1 (mt1 mh))))
  have cc5 := H.cell (w.heap.size) 5 (.bool (c.o 5)) (mt1 (mt1 (mt1 (mt1 (mt1 mh)))))
  have cc6 := H.cell (w.heap.size) 6 (.bool (c.o 6)) (mt1 (mt1 (mt1 (mt1 (mt1 (mt1 mh))))))
  have cc7 := H.cell (w.heap.size) 7 (.slice aR c.nr cR) (mt1 (mt1 (mt1 (mt1 (mt1 (mt1 (mt1 mh)))))))
  have cc8 := H.cell (w.heap.size) 8 (.slice aD c.nd cD) (mt8 mh)
  have lc := H.lt (w.heap.size) 0 (.bool (c.o 0)) mh
  go_wp2_with fail
  clear cc0 cc1 cc2 cc3 cc4 cc5 cc6 cc7 cc8 lc
  (with_reducible refine (Calls.same (rday13_is n true _ HD.out)).mono ?_)
  rintro e w4 ⟨rfl, hb⟩
  replace H := H.below hb
  clear hb
  have cc0 := H.cell (w.heap.size) 0 (.bool (c.o 0)) mh
  have cc1 := H.cell (w.heap.size) 1 (.bool (c.o 1)) (mt1 mh)
  have cc2 := H.cell (w.heap.size) 2 (.bool (c.o 2)) (mt1 (mt1 mh))
  have cc3 := H.cell (w.heap.size) 3 (.bool (c.o 3)) (mt1 (mt1 (mt1 mh)))
  have cc4 := H.cell (w.heap.size) 4 (.bool (c.o 4)) (mt1 (mt1 (mt1 (mt1 mh))))
  have cc5 := H.cell (w.heap.size) 5 (.bool (c.o 5)) (mt1 (mt1 (mt1 (mt1 (mt1 mh)))))
  have cc6 := H.cell (w.heap.size) 6 (.bool (c.o 6)) (mt1 (mt1 (mt1 (mt1 (mt1 (mt1 mh))))))
  have cc7 := H.cell (w.heap.size) 7 (.slice aR c.nr cR) (mt1 (mt1 (mt1 (mt1 (mt1 (mt1 (mt1 mh)))))))
  have cc8 := H.cell (w.heap.size) 8 (.slice aD c.nd cD) (mt8 mh)
  have lc := H.lt (w.heap.size) 0 (.bool (c.o 0)) mh
  go_wp2_with fail
  clear cc0 cc1 cc2 cc3 cc4 cc5 cc6 cc7 cc8 lc
  (with_reducible refine (next_is c aR cR aD cD n a e _ (H.factsW (mt8 (mt8 (mt1 (mt1 (mt1 mh)))))) MM.out (H.cal (mt8 (mt8 (mt1 (mt1 mh))))) bn H1.out).mono ?_)
  rintro e w5 ⟨rfl, hb⟩
  replace H := H.below hb
  clear hb
  have cc0 := H.cell (w.heap.size) 0 (.bool (c.o 0)) mh
  have cc1 := H.cell (w.heap.size) 1 (.bool (c.o 1)) (mt1 mh)
  have cc2 := H.cell (w.heap.size) 2 (.bool (c.o 2)) (mt1 (mt1 mh))
  have cc3 := H.cell (w.heap.size) 3 (.bool (c.o 3)) (mt1 (mt1 (mt1 mh)))
  have cc4 := H.cell (w.heap.size) 4 (.bool (c.o 4)) (mt1 (mt1 (mt1 (mt1 mh))))
  have cc5 := H.cell (w.heap.size) 5 (.bool (c.o 5)) (mt1 (mt1 (mt1 (mt1 (mt1 mh)))))
  have cc6 := H.cell (w.heap.size) 6 (.bool (c.o 6)) (mt1 (mt1 (mt1 (mt1 (mt1 (mt1 mh))))))
  have cc7 := H.cell (w.heap.size) 7 (.slice aR c.nr cR) (mt1 (mt1 (mt1 (mt1 (mt1 (mt1 (mt1 mh)))))))
  have cc8 := H.cell (w.heap.size) 8 (.slice aD c.nd cD) (mt8 mh)
  have lc := H.lt (w.heap.size) 0 (.bool (c.o 0)) mh
  go_wp2_with fail
  clear cc0 cc1 cc2 cc3 cc4 cc5 cc6 cc7 cc8 lc
  (with_reducible refine (prev_is c aR cR aD cD n b f _ (H.factsW (mt8 (mt8 (mt1 (mt1 (mt1 mh)))))) MM.out (H.cal (mt8 (mt8 (mt1 (mt1 mh))))) bn H2.out).mono ?_)
  rintro e w6 ⟨rfl, hb⟩
  replace H := H.below hb
  clear hb
  have cc0 := H.cell (w.heap.size) 0 (.bool (c.o 0)) mh
  have cc1 := H.cell (w.heap.size) 1 (.bool (c.o 1)) (mt1 mh)
  have cc2 := H.cell (w.heap.size) 2 (.bool (c.o 2)) (mt1 (mt1 mh))
  have cc3 := H.cell (w.heap.size) 3 (.bool (c.o 3)) (mt1 (mt1 (mt1 mh)))
  have cc4 := H.cell (w.heap.size) 4 (.bool (c.o 4)) (mt1 (mt1 (mt1 (mt1 mh))))
  have cc5 := H.cell (w.heap.size) 5 (.bool (c.o 5)) (mt1 (mt1 (mt1 (mt1 (mt1 mh)))))
  have cc6 := H.cell (w.heap.size) 6 (.bool (c.o 6)) (mt1 (mt1 (mt1 (mt1 (mt1 (mt1 mh))))))
  have cc7 := H.cell (w.heap.size) 7 (.slice aR c.nr cR) (mt1 (mt1 (mt1 (mt1 (mt1 (mt1 (mt1 mh)))))))
  have cc8 := H.cell (w.heap.size) 8 (.slice aD c.nd cD) (mt8 mh)
  have lc := H.lt (w.heap.size) 0 (.bool (c.o 0)) mh
  go_wp2_with fail
  clear cc0 cc1 cc2 cc3 cc4 cc5 cc6 cc7 cc8 lc
  (with_reducible refine (to_is14 c aR cR aD cD n 2 x e _ (H.factsW (mt8 (mt8 (mt1 (mt1 (mt1 mh)))))) MM.out (H.cal (mt8 (mt8 (mt1 (mt1 mh))))) bn H3.out).mono ?_)
  rintro e w7 ⟨rfl, hb⟩
  replace H := H.below hb
  clear hb
  have cc0 := H.cell (w.heap.size) 0 (.bool (c.o 0)) mh
  have cc1 := H.cell (w.heap.size) 1 (.bool (c.o 1)) (mt1 mh)
  have cc2 := H.cell (w.heap.size) 2 (.bool (c.o 2)) (mt1 (mt1 mh))
  have cc3 := H.cell (w.heap.size) 3 (.bool (c.o 3)) (mt1 (mt1 (mt1 mh)))
  have cc4 := H.cell (w.heap.size) 4 (.bool (c.o 4)) (mt1 (mt1 (mt1 (mt1 mh))))
  have cc5 := H.cell (w.heap.size) 5 (.bool (c.o 5)) (mt1 (mt1 (mt1 (mt1 (mt1 mh)))))
  have cc6 := H.cell (w.heap.size) 6 (.bool (c.o 6)) (mt1 (mt1 (mt1 (mt1 (mt1 (mt1 mh))))))
  have cc7 := H.cell (w.heap.size) 7 (.slice aR c.nr cR) (mt1 (mt1 (mt1 (mt1 (mt1 (mt1 (mt1 mh)))))))
  have cc8 := H.cell (w.heap.size) 8 (.slice aD c.nd cD) (mt8 mh)
  have lc := H.lt (w.heap.size) 0 (.bool (c.o 0)) mh
  go_wp2_with fail
  clear cc0 cc1 cc2 cc3 cc4 cc5 cc6 cc7 cc8 lc
  (with_reducible refine (to_is14 c aR cR aD cD n 4 y f _ (H.factsW (mt8 (mt8 (mt1 (mt1 (mt1 mh)))))) MM.out (H.cal (mt8 (mt8 (mt1 (mt1 mh))))) bn H4.out).mono ?_)
  rintro e w8 ⟨rfl, hb⟩
  replace H := H.below hb
  clear hb
  have cc0 := H.cell (w.heap.size) 0 (.bool (c.o 0)) mh
  have cc1 := H.cell (w.heap.size) 1 (.bool (c.o 1)) (mt1 mh)
  have cc2 := H.cell (w.heap.size) 2 (.bool (c.o 2)) (mt1 (mt1 mh))
  have cc3 := H.cell (w.heap.size) 3 (.bool (c.o 3)) (mt1 (mt1 (mt1 mh)))
  have cc4 := H.cell (w.heap.size) 4 (.bool (c.o 4)) (mt1 (mt1 (mt1 (mt1 mh))))
  have cc5 := H.cell (w.heap.size) 5 (.bool (c.o 5)) (mt1 (mt1 (mt1 (mt1 (mt1 mh)))))
  have cc6 := H.cell (w.heap.size) 6 (.bool (c.o 6)) (mt1 (mt1 (mt1 (mt1 (mt1 (mt1 mh))))))
  have cc7 := H.cell (w.heap.size) 7 (.slice aR c.nr cR) (mt1 (mt1 (mt1 (mt1 (mt1 (mt1 (mt1 mh)))))))
  have cc8 := H.cell (w.heap.size) 8 (.slice aD c.nd cD) (mt8 mh)
  have lc := H.lt (w.heap.size) 0 (.bool (c.o 0)) mh
  go_wp2_with fail
  clear cc0 cc1 cc2 cc3 cc4 cc5 cc6 cc7 cc8 lc
  (with_reducible refine (to_is14 c aR cR aD cD n 1 a e _ (H.factsW (mt8 (mt8 (mt1 (mt1 (mt1 mh)))))) MM.out (H.cal (mt8 (mt8 (mt1 (mt1 mh))))) bn H5.out).mono ?_)
  rintro e w9 ⟨rfl, hb⟩
  replace H := H.below hb
  clear hb
  have cc0 := H.cell (w.heap.size) 0 (.bool (c.o 0)) mh
  have cc1 := H.cell (w.heap.size) 1 (.bool (c.o 1)) (mt1 mh)
  have cc2 := H.cell (w.heap.size) 2 (.bool (c.o 2)) (mt1 (mt1 mh))
  have cc3 := H.cell (w.heap.size) 3 (.bool (c.o 3)) (mt1 (mt1 (mt1 mh)))
  have cc4 := H.cell (w.heap.size) 4 (.bool (c.o 4)) (mt1 (mt1 (mt1 (mt1 mh))))
  have cc5 := H.cell (w.heap.size) 5 (.bool (c.o 5)) (mt1 (mt1 (mt1 (mt1 (mt1 mh)))))
  have cc6 := H.cell (w.heap.size) 6 (.bool (c.o 6)) (mt1 (mt1 (mt1 (mt1 (mt1 (mt1 mh))))))
  have cc7 := H.cell (w.heap.size) 7 (.slice aR c.nr cR) (mt1 (mt1 (mt1 (mt1 (mt1 (mt1 (mt1 mh)))))))
  have cc8 := H.cell (w.heap.size) 8 (.slice aD c.nd cD) (mt8 mh)
  have lc := H.lt (w.heap.size) 0 (.bool (c.o 0)) mh
  go_wp2_with fail
  clear cc0 cc1 cc2 cc3 cc4 cc5 cc6 cc7 cc8 lc
  (with_reducible refine (to_is14 c aR cR aD cD n 3 b f _ (H.factsW (mt8 (mt8 (mt1 (mt1 (mt1 mh)))))) MM.out (H.cal (mt8 (mt8 (mt1 (mt1 mh))))) bn H6.out).mono ?_)
  rintro e w10 ⟨rfl, hb⟩
  replace H := H.below hb
  clear hb
  go_wp2_with fail
  go_ret
  exact ⟨rfl, H.old⟩

set_option maxHeartbeats 8000000 in
set_option maxRecDepth 100000 in
theorem romonth_tt (c : Ca) (aR : Option Addr) (cR : Nat) (aD : Option Addr) (cD : Nat) (n a b y0 m0 d0 y1 m1 z1 y2 m2 z2 : Int) (w : World) (hL : FactsW w) (hCc : CalAt w c aR cR aD cD) (hf : decide (c.nr ≤ 12 ∧ c.nd ≤ 60) = true) (hS : c.Small) (hM : c.May) (hd : decide (1 ≤ n ∧ n ≤ 3652059) = true) (nb : 1 ≤ n ∧ n ≤ 3652059) (bn : -9223372036854775808 ≤ n ∧ n < 9223372036854775808) (h1 : StepIs c 1 n a 0) (h2 : StepIs c (-1) n b 0) (h3 : ToIs c n 2 a 0) (h4 : ToIs c n 4 b 0) (h5 : ToIs c n 1 a 0) (h6 : ToIs c n 3 b 0) (d1 : DayIs n y0 m0 d0 0) (d2 : DayIs a y1 m1 z1 0) (d3 : DayIs b y2 m2 z2 0) (ho : (y1 == y0 && m1 == m0) = true) (hk : (y2 == y0 && m2 == m0) = true) :
    Calls Tryd.prog 5 #[.agg #[.bool (c.o 0), .bool (c.o 1), .bool (c.o 2), .bool (c.o 3), .bool (c.o 4), .bool (c.o 5), .bool (c.o 6), .slice aR c.nr cR, .slice aD c.nd cD], .int .i64 n] w fun e w' => e = .returned (.bool true) ∧ Below w.heap.size w w' := by
  have H := ((Held.start w).add (f := factsWF) hL).add (f := calF c aR cR aD cD) hCc
  clear hL hCc
  have HF := Lib.hid hf
  have HZ := Lib.hid hS
  have MM := Lib.hid hM
  have HD := Lib.hid hd
  have H1 := Lib.hid h1
  have H2 := Lib.hid h2
  have H3 := Lib.hid h3
  have H4 := Lib.hid h4
  have H5 := Lib.hid h5
  have H6 := Lib.hid h6
  have D1 := Lib.hid d1
  have D2 := Lib.hid d2
  have D3 := Lib.hid d3
  have HO := Lib.hid ho
  have HK := Lib.hid hk
  clear hf hS hM hd h1 h2 h3 h4 h5 h6 d1 d2 d3 ho hk
  go_enter Tryd.func5, Tryd.ntmps5
  go_wp2_with fail
  replace H := (H.box_9 (w.heap.size) (.bool (c.o 0)) (.bool (c.o 1)) (.bool (c.o 2)) (.bool (c.o 3)) (.bool (c.o 4)) (.bool (c.o 5)) (.bool (c.o 6)) (.slice aR c.nr cR) (.slice aD c.nd cD) 26 rfl)
  (with_reducible refine (roshown_any _ (H.factsW (mt8 (mt8 (mt1 (mt1 (mt1 mh))))))).mono ?_)
  rintro e w1 ⟨rfl, hb⟩
  replace H := H.below hb
  clear hb
  have cc0 := H.cell (w.heap.size) 0 (.bool (c.o 0)) mh
  have cc1 := H.cell (w.heap.size) 1 (.bool (c.o 1)) (mt1 mh)
  have cc2 := H.cell (w.heap.size) 2 (.bool (c.o 2)) (mt1 (mt1 mh))
  have cc3 := H.cell (w.heap.size) 3 (.bool (c.o 3)) (mt1 (mt1 (mt1 mh)))
  have cc4 := H.cell (w.heap.size) 4 (.bool (c.o 4)) (mt1 (mt1 (mt1 (mt1 mh))))
  have cc5 := H.cell (w.heap.size) 5 (.bool (c.o 5)) (mt1 (mt1 (mt1 (mt1 (mt1 mh)))))
  have cc6 := H.cell (w.heap.size) 6 (.bool (c.o 6)) (mt1 (mt1 (mt1 (mt1 (mt1 (mt1 mh))))))
  have cc7 := H.cell (w.heap.size) 7 (.slice aR c.nr cR) (mt1 (mt1 (mt1 (mt1 (mt1 (mt1 (mt1 mh)))))))
  have cc8 := H.cell (w.heap.size) 8 (.slice aD c.nd cD) (mt8 mh)
  have lc := H.lt (w.heap.size) 0 (.bool (c.o 0)) mh
  go_wp2_with fail
  clear cc0 cc1 cc2 cc3 cc4 cc5 cc6 cc7 cc8 lc
  (with_reducible refine (few_any c aR cR aD cD true _ HF.out).mono ?_)
  rintro e w2 ⟨rfl, hb⟩
  replace H := H.below hb
  clear hb
  have cc0 := H.cell (w.heap.size) 0 (.bool (c.o 0)) mh
  have cc1 := H.cell (w.heap.size) 1 (.bool (c.o 1)) (mt1 mh)
  have cc2 := H.cell (w.heap.size) 2 (.bool (c.o 2)) (mt1 (mt1 mh))
  have cc3 := H.cell (w.heap.size) 3 (.bool (c.o 3)) (mt1 (mt1 (mt1 mh)))
  have cc4 := H.cell (w.heap.size) 4 (.bool (c.o 4)) (mt1 (mt1 (mt1 (mt1 mh))))
  have cc5 := H.cell (w.heap.size) 5 (.bool (c.o 5)) (mt1 (mt1 (mt1 (mt1 (mt1 mh)))))
  have cc6 := H.cell (w.heap.size) 6 (.bool (c.o 6)) (mt1 (mt1 (mt1 (mt1 (mt1 (mt1 mh))))))
  have cc7 := H.cell (w.heap.size) 7 (.slice aR c.nr cR) (mt1 (mt1 (mt1 (mt1 (mt1 (mt1 (mt1 mh)))))))
  have cc8 := H.cell (w.heap.size) 8 (.slice aD c.nd cD) (mt8 mh)
  have lc := H.lt (w.heap.size) 0 (.bool (c.o 0)) mh
  go_wp2_with fail
  clear cc0 cc1 cc2 cc3 cc4 cc5 cc6 cc7 cc8 lc
  (with_reducible refine (rcmay_any c aR cR aD cD true _ HZ.out (H.cal (mt8 (mt8 (mt1 (mt1 mh))))) ⟨fun _ => MM.out, fun _ => rfl⟩).mono ?_)
  rintro e w3 ⟨rfl, hb⟩
  replace H := H.below hb
  clear hb
  have cc0 := H.cell (w.heap.size) 0 (.bool (c.o 0)) mh
  have cc1 := H.cell (w.heap.size) 1 (.bool (c.o 1)) (mt1 mh)
  have cc2 := H.cell (w.heap.size) 2 (.bool (c.o 2)) (mt1 (mt1 mh))
  have cc3 := H.cell (w.heap.size) 3 (.bool (c.o 3)) (mt1 (mt1 (mt1 mh)))
  have cc4 := H.cell (w.heap.size) 4 (.bool (c.o 4)) (mt1 (mt1 (mt1 (mt1 mh))))
  have cc5 := H.cell (w.heap.size) 5 (.bool (c.o 5)) (mt1 (mt1 (mt1 (mt1 (mt1 mh)))))
  have cc6 := H.cell (w.heap.size) 6 (.bool (c.o 6)) (mt1 (mt1 (mt1 (mt1 (mt1 (mt1 mh))))))
  have cc7 := H.cell (w.heap.size) 7 (.slice aR c.nr cR) (mt1 (mt1 (mt1 (mt1 (mt1 (mt1 (mt1 mh)))))))
  have cc8 := H.cell (w.heap.size) 8 (.slice aD c.nd cD) (mt8 mh)
  have lc := H.lt (w.heap.size) 0 (.bool (c.o 0)) mh
  go_wp2_with fail
  clear cc0 cc1 cc2 cc3 cc4 cc5 cc6 cc7 cc8 lc
  (with_reducible refine (Calls.same (rday13_is n true _ HD.out)).mono ?_)
  rintro e w4 ⟨rfl, hb⟩
  replace H := H.below hb
  clear hb
  have cc0 := H.cell (w.heap.size) 0 (.bool (c.o 0)) mh
  have cc1 := H.cell (w.heap.size) 1 (.bool (c.o 1)) (mt1 mh)
  have cc2 := H.cell (w.heap.size) 2 (.bool (c.o 2)) (mt1 (mt1 mh))
  have cc3 := H.cell (w.heap.size) 3 (.bool (c.o 3)) (mt1 (mt1 (mt1 mh)))
  have cc4 := H.cell (w.heap.size) 4 (.bool (c.o 4)) (mt1 (mt1 (mt1 (mt1 mh))))
  have cc5 := H.cell (w.heap.size) 5 (.bool (c.o 5)) (mt1 (mt1 (mt1 (mt1 (mt1 mh)))))
  have cc6 := H.cell (w.heap.size) 6 (.bool (c.o 6)) (mt1 (mt1 (mt1 (mt1 (mt1 (mt1 mh))))))
  have cc7 := H.cell (w.heap.size) 7 (.slice aR c.nr cR) (mt1 (mt1 (mt1 (mt1 (mt1 (mt1 (mt1 mh)))))))
  have cc8 := H.cell (w.heap.size) 8 (.slice aD c.nd cD) (mt8 mh)
  have lc := H.lt (w.heap.size) 0 (.bool (c.o 0)) mh
  go_wp2_with fail
  clear cc0 cc1 cc2 cc3 cc4 cc5 cc6 cc7 cc8 lc
  (with_reducible refine (next_is c aR cR aD cD n a 0 _ (H.factsW (mt8 (mt8 (mt1 (mt1 (mt1 mh)))))) MM.out (H.cal (mt8 (mt8 (mt1 (mt1 mh))))) bn H1.out).mono ?_)
  rintro e w5 ⟨rfl, hb⟩
  replace H := H.below hb
  clear hb
  have cc0 := H.cell (w.heap.size) 0 (.bool (c.o 0)) mh
  have cc1 := H.cell (w.heap.size) 1 (.bool (c.o 1)) (mt1 mh)
  have cc2 := H.cell (w.heap.size) 2 (.bool (c.o 2)) (mt1 (mt1 mh))
  have cc3 := H.cell (w.heap.size) 3 (.bool (c.o 3)) (mt1 (mt1 (mt1 mh)))
  have cc4 := H.cell (w.heap.size) 4 (.bool (c.o 4)) (mt1 (mt1 (mt1 (mt1 mh))))
  have cc5 := H.cell (w.heap.size) 5 (.bool (c.o 5)) (mt1 (mt1 (mt1 (mt1 (mt1 mh)))))
  have cc6 := H.cell (w.heap.size) 6 (.bool (c.o 6)) (mt1 (mt1 (mt1 (mt1 (mt1 (mt1 mh))))))
  have cc7 := H.cell (w.heap.size) 7 (.slice aR c.nr cR) (mt1 (mt1 (mt1 (mt1 (mt1 (mt1 (mt1 mh)))))))
  have cc8 := H.cell (w.heap.size) 8 (.slice aD c.nd cD) (mt8 mh)
  have lc := H.lt (w.heap.size) 0 (.bool (c.o 0)) mh
  go_wp2_with fail
  clear cc0 cc1 cc2 cc3 cc4 cc5 cc6 cc7 cc8 lc
  (with_reducible refine (prev_is c aR cR aD cD n b 0 _ (H.factsW (mt8 (mt8 (mt1 (mt1 (mt1 mh)))))) MM.out (H.cal (mt8 (mt8 (mt1 (mt1 mh))))) bn H2.out).mono ?_)
  rintro e w6 ⟨rfl, hb⟩
  replace H := H.below hb
  clear hb
  have cc0 := H.cell (w.heap.size) 0 (.bool (c.o 0)) mh
  have cc1 := H.cell (w.heap.size) 1 (.bool (c.o 1)) (mt1 mh)
  have cc2 := H.cell (w.heap.size) 2 (.bool (c.o 2)) (mt1 (mt1 mh))
  have cc3 := H.cell (w.heap.size) 3 (.bool (c.o 3)) (mt1 (mt1 (mt1 mh)))
  have cc4 := H.cell (w.heap.size) 4 (.bool (c.o 4)) (mt1 (mt1 (mt1 (mt1 mh))))
  have cc5 := H.cell (w.heap.size) 5 (.bool (c.o 5)) (mt1 (mt1 (mt1 (mt1 (mt1 mh)))))
  have cc6 := H.cell (w.heap.size) 6 (.bool (c.o 6)) (mt1 (mt1 (mt1 (mt1 (mt1 (mt1 mh))))))
  have cc7 := H.cell (w.heap.size) 7 (.slice aR c.nr cR) (mt1 (mt1 (mt1 (mt1 (mt1 (mt1 (mt1 mh)))))))
  have cc8 := H.cell (w.heap.size) 8 (.slice aD c.nd cD) (mt8 mh)
  have lc := H.lt (w.heap.size) 0 (.bool (c.o 0)) mh
  go_wp2_with fail
  clear cc0 cc1 cc2 cc3 cc4 cc5 cc6 cc7 cc8 lc
  (with_reducible refine (to_is14 c aR cR aD cD n 2 a 0 _ (H.factsW (mt8 (mt8 (mt1 (mt1 (mt1 mh)))))) MM.out (H.cal (mt8 (mt8 (mt1 (mt1 mh))))) bn H3.out).mono ?_)
  rintro e w7 ⟨rfl, hb⟩
  replace H := H.below hb
  clear hb
  have cc0 := H.cell (w.heap.size) 0 (.bool (c.o 0)) mh
  have cc1 := H.cell (w.heap.size) 1 (.bool (c.o 1)) (mt1 mh)
  have cc2 := H.cell (w.heap.size) 2 (.bool (c.o 2)) (mt1 (mt1 mh))
  have cc3 := H.cell (w.heap.size) 3 (.bool (c.o 3)) (mt1 (mt1 (mt1 mh)))
  have cc4 := H.cell (w.heap.size) 4 (.bool (c.o 4)) (mt1 (mt1 (mt1 (mt1 mh))))
  have cc5 := H.cell (w.heap.size) 5 (.bool (c.o 5)) (mt1 (mt1 (mt1 (mt1 (mt1 mh)))))
  have cc6 := H.cell (w.heap.size) 6 (.bool (c.o 6)) (mt1 (mt1 (mt1 (mt1 (mt1 (mt1 mh))))))
  have cc7 := H.cell (w.heap.size) 7 (.slice aR c.nr cR) (mt1 (mt1 (mt1 (mt1 (mt1 (mt1 (mt1 mh)))))))
  have cc8 := H.cell (w.heap.size) 8 (.slice aD c.nd cD) (mt8 mh)
  have lc := H.lt (w.heap.size) 0 (.bool (c.o 0)) mh
  go_wp2_with fail
  clear cc0 cc1 cc2 cc3 cc4 cc5 cc6 cc7 cc8 lc
  (with_reducible refine (to_is14 c aR cR aD cD n 4 b 0 _ (H.factsW (mt8 (mt8 (mt1 (mt1 (mt1 mh)))))) MM.out (H.cal (mt8 (mt8 (mt1 (mt1 mh))))) bn H4.out).mono ?_)
  rintro e w8 ⟨rfl, hb⟩
  replace H := H.below hb
  clear hb
  have cc0 := H.cell (w.heap.size) 0 (.bool (c.o 0)) mh
  have cc1 := H.cell (w.heap.size) 1 (.bool (c.o 1)) (mt1 mh)
  have cc2 := H.cell (w.heap.size) 2 (.bool (c.o 2)) (mt1 (mt1 mh))
  have cc3 := H.cell (w.heap.size) 3 (.bool (c.o 3)) (mt1 (mt1 (mt1 mh)))
  have cc4 := H.cell (w.heap.size) 4 (.bool (c.o 4)) (mt1 (mt1 (mt1 (mt1 mh))))
  have cc5 := H.cell (w.heap.size) 5 (.bool (c.o 5)) (mt1 (mt1 (mt1 (mt1 (mt1 mh)))))
  have cc6 := H.cell (w.heap.size) 6 (.bool (c.o 6)) (mt1 (mt1 (mt1 (mt1 (mt1 (mt1 mh))))))
  have cc7 := H.cell (w.heap.size) 7 (.slice aR c.nr cR) (mt1 (mt1 (mt1 (mt1 (mt1 (mt1 (mt1 mh)))))))
  have cc8 := H.cell (w.heap.size) 8 (.slice aD c.nd cD) (mt8 mh)
  have lc := H.lt (w.heap.size) 0 (.bool (c.o 0)) mh
  go_wp2_with fail
  clear cc0 cc1 cc2 cc3 cc4 cc5 cc6 cc7 cc8 lc
  (with_reducible refine (to_is14 c aR cR aD cD n 1 a 0 _ (H.factsW (mt8 (mt8 (mt1 (mt1 (mt1 mh)))))) MM.out (H.cal (mt8 (mt8 (mt1 (mt1 mh))))) bn H5.out).mono ?_)
  rintro e w9 ⟨rfl, hb⟩
  replace H := H.below hb
  clear hb
  have cc0 := H.cell (w.heap.size) 0 (.bool (c.o 0)) mh
  have cc1 := H.cell (w.heap.size) 1 (.bool (c.o 1)) (mt1 mh)
  have cc2 := H.cell (w.heap.size) 2 (.bool (c.o 2)) (mt1 (mt1 mh))
  have cc3 := H.cell (w.heap.size) 3 (.bool (c.o 3)) (mt1 (mt1 (mt1 mh)))
  have cc4 := H.cell (w.heap.size) 4 (.bool (c.o 4)) (mt1 (mt1 (mt1 (mt1 mh))))
  have cc5 := H.cell (w.heap.size) 5 (.bool (c.o 5)) (mt1 (mt1 (mt1 (mt1 (mt1 mh)))))
  have cc6 := H.cell (w.heap.size) 6 (.bool (c.o 6)) (mt1 (mt1 (mt1 (mt1 (mt1 (mt1 mh))))))
  have cc7 := H.cell (w.heap.size) 7 (.slice aR c.nr cR) (mt1 (mt1 (mt1 (mt1 (mt1 (mt1 (mt1 mh)))))))
  have cc8 := H.cell (w.heap.size) 8 (.slice aD c.nd cD) (mt8 mh)
  have lc := H.lt (w.heap.size) 0 (.bool (c.o 0)) mh
  go_wp2_with fail
  clear cc0 cc1 cc2 cc3 cc4 cc5 cc6 cc7 cc8 lc
  (with_reducible refine (to_is14 c aR cR aD cD n 3 b 0 _ (H.factsW (mt8 (mt8 (mt1 (mt1 (mt1 mh)))))) MM.out (H.cal (mt8 (mt8 (mt1 (mt1 mh))))) bn H6.out).mono ?_)
  rintro e w10 ⟨rfl, hb⟩
  replace H := H.below hb
  clear hb
  go_wp2_with fail
  (with_reducible refine (rof_any n y0 m0 d0 0 _ D1.out).mono ?_)
  rintro e w11 ⟨rfl, hb⟩
  replace H := H.below hb
  clear hb
  go_wp2_with fail
  replace H := (H.triple (w11.heap.size) (.int .i64 y0) (.int .i64 m0) (.int .i64 d0) 46 rfl)
  (with_reducible refine (rof_any a y1 m1 z1 0 _ D2.out).mono ?_)
  rintro e w12 ⟨rfl, hb⟩
  replace H := H.below hb
  clear hb
  go_wp2_with fail
  replace H := (H.triple (w12.heap.size) (.int .i64 y1) (.int .i64 m1) (.int .i64 z1) 46 rfl)
  (with_reducible refine (rof_any b y2 m2 z2 0 _ D3.out).mono ?_)
  rintro e w13 ⟨rfl, hb⟩
  replace H := H.below hb
  clear hb
  have co0 := H.cell (w11.heap.size) 0 (.int .i64 y0) (mt1 (mt1 (mt1 (mt1 (mt1 (mt1 mh))))))
  have co1 := H.cell (w11.heap.size) 1 (.int .i64 m0) (mt1 (mt1 (mt1 (mt1 (mt1 (mt1 (mt1 mh)))))))
  have co2 := H.cell (w11.heap.size) 2 (.int .i64 d0) (mt8 mh)
  have lo := H.lt (w11.heap.size) 0 (.int .i64 y0) (mt1 (mt1 (mt1 (mt1 (mt1 (mt1 mh))))))
  have cr0 := H.cell (w12.heap.size) 0 (.int .i64 y1) mh
  have cr1 := H.cell (w12.heap.size) 1 (.int .i64 m1) (mt1 mh)
  have cr2 := H.cell (w12.heap.size) 2 (.int .i64 z1) (mt1 (mt1 mh))
  have lr := H.lt (w12.heap.size) 0 (.int .i64 y1) mh
  have HOLD := (H.alloc (.cells #[.int .i64 y2, .int .i64 m2, .int .i64 z2] 46)).old
  clear H
  have P := HO.out
  have R := HK.out
  clear HO HK
  cases p1 : (y1 == y0) <;> cases p2 : (m1 == m0) <;> rw [p1, p2] at P <;> first | (exfalso; revert P; decide) | skip
  all_goals
    clear P
    cases q1 : (y2 == y0) <;> cases q2 : (m2 == m0) <;> rw [q1, q2] at R <;> first | (exfalso; revert R; decide) | skip
  all_goals
    clear R
    go_wp2
    go_ret
    exact ⟨rfl, HOLD⟩

set_option maxHeartbeats 8000000 in
set_option maxRecDepth 100000 in
theorem romonth_tf (c : Ca) (aR : Option Addr) (cR : Nat) (aD : Option Addr) (cD : Nat) (n a b y0 m0 d0 y1 m1 z1 y2 m2 z2 : Int) (w : World) (hL : FactsW w) (hCc : CalAt w c aR cR aD cD) (hf : decide (c.nr ≤ 12 ∧ c.nd ≤ 60) = true) (hS : c.Small) (hM : c.May) (hd : decide (1 ≤ n ∧ n ≤ 3652059) = true) (nb : 1 ≤ n ∧ n ≤ 3652059) (bn : -9223372036854775808 ≤ n ∧ n < 9223372036854775808) (h1 : StepIs c 1 n a 0) (h2 : StepIs c (-1) n b 0) (h3 : ToIs c n 2 a 0) (h4 : ToIs c n 4 a 0) (h5 : ToIs c n 1 a 0) (h6 : ToIs c n 3 b 0) (d1 : DayIs n y0 m0 d0 0) (d2 : DayIs a y1 m1 z1 0) (d3 : DayIs b y2 m2 z2 0) (ho : (y1 == y0 && m1 == m0) = true) (hk : (y2 == y0 && m2 == m0) = false) :
    Calls Tryd.prog 5 #[.agg #[.bool (c.o 0), .bool (c.o 1), .bool (c.o 2), .bool (c.o 3), .bool (c.o 4), .bool (c.o 5), .bool (c.o 6), .slice aR c.nr cR, .slice aD c.nd cD], .int .i64 n] w fun e w' => e = .returned (.bool true) ∧ Below w.heap.size w w' := by
  have H := ((Held.start w).add (f := factsWF) hL).add (f := calF c aR cR aD cD) hCc
  clear hL hCc
  have HF := Lib.hid hf
  have HZ := Lib.hid hS
  have MM := Lib.hid hM
  have HD := Lib.hid hd
  have H1 := Lib.hid h1
  have H2 := Lib.hid h2
  have H3 := Lib.hid h3
  have H4 := Lib.hid h4
  have H5 := Lib.hid h5
  have H6 := Lib.hid h6
  have D1 := Lib.hid d1
  have D2 := Lib.hid d2
  have D3 := Lib.hid d3
  have HO := Lib.hid ho
  have HK := Lib.hid hk
  clear hf hS hM hd h1 h2 h3 h4 h5 h6 d1 d2 d3 ho hk
  go_enter Tryd.func5, Tryd.ntmps5
  go_wp2_with fail
  replace H := (H.box_9 (w.heap.size) (.bool (c.o 0)) (.bool (c.o 1)) (.bool (c.o 2)) (.bool (c.o 3)) (.bool (c.o 4)) (.bool (c.o 5)) (.bool (c.o 6)) (.slice aR c.nr cR) (.slice aD c.nd cD) 26 rfl)
  (with_reducible refine (roshown_any _ (H.factsW (mt8 (mt8 (mt1 (mt1 (mt1 mh))))))).mono ?_)
  rintro e w1 ⟨rfl, hb⟩
  replace H := H.below hb
  clear hb
  have cc0 := H.cell (w.heap.size) 0 (.bool (c.o 0)) mh
  have cc1 := H.cell (w.heap.size) 1 (.bool (c.o 1)) (mt1 mh)
  have cc2 := H.cell (w.heap.size) 2 (.bool (c.o 2)) (mt1 (mt1 mh))
  have cc3 := H.cell (w.heap.size) 3 (.bool (c.o 3)) (mt1 (mt1 (mt1 mh)))
  have cc4 := H.cell (w.heap.size) 4 (.bool (c.o 4)) (mt1 (mt1 (mt1 (mt1 mh))))
  have cc5 := H.cell (w.heap.size) 5 (.bool (c.o 5)) (mt1 (mt1 (mt1 (mt1 (mt1 mh)))))
  have cc6 := H.cell (w.heap.size) 6 (.bool (c.o 6)) (mt1 (mt1 (mt1 (mt1 (mt1 (mt1 mh))))))
  have cc7 := H.cell (w.heap.size) 7 (.slice aR c.nr cR) (mt1 (mt1 (mt1 (mt1 (mt1 (mt1 (mt1 mh)))))))
  have cc8 := H.cell (w.heap.size) 8 (.slice aD c.nd cD) (mt8 mh)
  have lc := H.lt (w.heap.size) 0 (.bool (c.o 0)) mh
  go_wp2_with fail
  clear cc0 cc1 cc2 cc3 cc4 cc5 cc6 cc7 cc8 lc
  (with_reducible refine (few_any c aR cR aD cD true _ HF.out).mono ?_)
  rintro e w2 ⟨rfl, hb⟩
  replace H := H.below hb
  clear hb
  have cc0 := H.cell (w.heap.size) 0 (.bool (c.o 0)) mh
  have cc1 := H.cell (w.heap.size) 1 (.bool (c.o 1)) (mt1 mh)
  have cc2 := H.cell (w.heap.size) 2 (.bool (c.o 2)) (mt1 (mt1 mh))
  have cc3 := H.cell (w.heap.size) 3 (.bool (c.o 3)) (mt1 (mt1 (mt1 mh)))
  have cc4 := H.cell (w.heap.size) 4 (.bool (c.o 4)) (mt1 (mt1 (mt1 (mt1 mh))))
  have cc5 := H.cell (w.heap.size) 5 (.bool (c.o 5)) (mt1 (mt1 (mt1 (mt1 (mt1 mh)))))
  have cc6 := H.cell (w.heap.size) 6 (.bool (c.o 6)) (mt1 (mt1 (mt1 (mt1 (mt1 (mt1 mh))))))
  have cc7 := H.cell (w.heap.size) 7 (.slice aR c.nr cR) (mt1 (mt1 (mt1 (mt1 (mt1 (mt1 (mt1 mh)))))))
  have cc8 := H.cell (w.heap.size) 8 (.slice aD c.nd cD) (mt8 mh)
  have lc := H.lt (w.heap.size) 0 (.bool (c.o 0)) mh
  go_wp2_with fail
  clear cc0 cc1 cc2 cc3 cc4 cc5 cc6 cc7 cc8 lc
  (with_reducible refine (rcmay_any c aR cR aD cD true _ HZ.out (H.cal (mt8 (mt8 (mt1 (mt1 mh))))) ⟨fun _ => MM.out, fun _ => rfl⟩).mono ?_)
  rintro e w3 ⟨rfl, hb⟩
  replace H := H.below hb
  clear hb
  have cc0 := H.cell (w.heap.size) 0 (.bool (c.o 0)) mh
  have cc1 := H.cell (w.heap.size) 1 (.bool (c.o 1)) (mt1 mh)
  have cc2 := H.cell (w.heap.size) 2 (.bool (c.o 2)) (mt1 (mt1 mh))
  have cc3 := H.cell (w.heap.size) 3 (.bool (c.o 3)) (mt1 (mt1 (mt1 mh)))
  have cc4 := H.cell (w.heap.size) 4 (.bool (c.o 4)) (mt1 (mt1 (mt1 (mt1 mh))))
  have cc5 := H.cell (w.heap.size) 5 (.bool (c.o 5)) (mt1 (mt1 (mt1 (mt1 (mt1 mh)))))
  have cc6 := H.cell (w.heap.size) 6 (.bool (c.o 6)) (mt1 (mt1 (mt1 (mt1 (mt1 (mt1 mh))))))
  have cc7 := H.cell (w.heap.size) 7 (.slice aR c.nr cR) (mt1 (mt1 (mt1 (mt1 (mt1 (mt1 (mt1 mh)))))))
  have cc8 := H.cell (w.heap.size) 8 (.slice aD c.nd cD) (mt8 mh)
  have lc := H.lt (w.heap.size) 0 (.bool (c.o 0)) mh
  go_wp2_with fail
  clear cc0 cc1 cc2 cc3 cc4 cc5 cc6 cc7 cc8 lc
  (with_reducible refine (Calls.same (rday13_is n true _ HD.out)).mono ?_)
  rintro e w4 ⟨rfl, hb⟩
  replace H := H.below hb
  clear hb
  have cc0 := H.cell (w.heap.size) 0 (.bool (c.o 0)) mh
  have cc1 := H.cell (w.heap.size) 1 (.bool (c.o 1)) (mt1 mh)
  have cc2 := H.cell (w.heap.size) 2 (.bool (c.o 2)) (mt1 (mt1 mh))
  have cc3 := H.cell (w.heap.size) 3 (.bool (c.o 3)) (mt1 (mt1 (mt1 mh)))
  have cc4 := H.cell (w.heap.size) 4 (.bool (c.o 4)) (mt1 (mt1 (mt1 (mt1 mh))))
  have cc5 := H.cell (w.heap.size) 5 (.bool (c.o 5)) (mt1 (mt1 (mt1 (mt1 (mt1 mh)))))
  have cc6 := H.cell (w.heap.size) 6 (.bool (c.o 6)) (mt1 (mt1 (mt1 (mt1 (mt1 (mt1 mh))))))
  have cc7 := H.cell (w.heap.size) 7 (.slice aR c.nr cR) (mt1 (mt1 (mt1 (mt1 (mt1 (mt1 (mt1 mh)))))))
  have cc8 := H.cell (w.heap.size) 8 (.slice aD c.nd cD) (mt8 mh)
  have lc := H.lt (w.heap.size) 0 (.bool (c.o 0)) mh
  go_wp2_with fail
  clear cc0 cc1 cc2 cc3 cc4 cc5 cc6 cc7 cc8 lc
  (with_reducible refine (next_is c aR cR aD cD n a 0 _ (H.factsW (mt8 (mt8 (mt1 (mt1 (mt1 mh)))))) MM.out (H.cal (mt8 (mt8 (mt1 (mt1 mh))))) bn H1.out).mono ?_)
  rintro e w5 ⟨rfl, hb⟩
  replace H := H.below hb
  clear hb
  have cc0 := H.cell (w.heap.size) 0 (.bool (c.o 0)) mh
  have cc1 := H.cell (w.heap.size) 1 (.bool (c.o 1)) (mt1 mh)
  have cc2 := H.cell (w.heap.size) 2 (.bool (c.o 2)) (mt1 (mt1 mh))
  have cc3 := H.cell (w.heap.size) 3 (.bool (c.o 3)) (mt1 (mt1 (mt1 mh)))
  have cc4 := H.cell (w.heap.size) 4 (.bool (c.o 4)) (mt1 (mt1 (mt1 (mt1 mh))))
  have cc5 := H.cell (w.heap.size) 5 (.bool (c.o 5)) (mt1 (mt1 (mt1 (mt1 (mt1 mh)))))
  have cc6 := H.cell (w.heap.size) 6 (.bool (c.o 6)) (mt1 (mt1 (mt1 (mt1 (mt1 (mt1 mh))))))
  have cc7 := H.cell (w.heap.size) 7 (.slice aR c.nr cR) (mt1 (mt1 (mt1 (mt1 (mt1 (mt1 (mt1 mh)))))))
  have cc8 := H.cell (w.heap.size) 8 (.slice aD c.nd cD) (mt8 mh)
  have lc := H.lt (w.heap.size) 0 (.bool (c.o 0)) mh
  go_wp2_with fail
  clear cc0 cc1 cc2 cc3 cc4 cc5 cc6 cc7 cc8 lc
  (with_reducible refine (prev_is c aR cR aD cD n b 0 _ (H.factsW (mt8 (mt8 (mt1 (mt1 (mt1 mh)))))) MM.out (H.cal (mt8 (mt8 (mt1 (mt1 mh))))) bn H2.out).mono ?_)
  rintro e w6 ⟨rfl, hb⟩
  replace H := H.below hb
  clear hb
  have cc0 := H.cell (w.heap.size) 0 (.bool (c.o 0)) mh
  have cc1 := H.cell (w.heap.size) 1 (.bool (c.o 1)) (mt1 mh)
  have cc2 := H.cell (w.heap.size) 2 (.bool (c.o 2)) (mt1 (mt1 mh))
  have cc3 := H.cell (w.heap.size) 3 (.bool (c.o 3)) (mt1 (mt1 (mt1 mh)))
  have cc4 := H.cell (w.heap.size) 4 (.bool (c.o 4)) (mt1 (mt1 (mt1 (mt1 mh))))
  have cc5 := H.cell (w.heap.size) 5 (.bool (c.o 5)) (mt1 (mt1 (mt1 (mt1 (mt1 mh)))))
  have cc6 := H.cell (w.heap.size) 6 (.bool (c.o 6)) (mt1 (mt1 (mt1 (mt1 (mt1 (mt1 mh))))))
  have cc7 := H.cell (w.heap.size) 7 (.slice aR c.nr cR) (mt1 (mt1 (mt1 (mt1 (mt1 (mt1 (mt1 mh)))))))
  have cc8 := H.cell (w.heap.size) 8 (.slice aD c.nd cD) (mt8 mh)
  have lc := H.lt (w.heap.size) 0 (.bool (c.o 0)) mh
  go_wp2_with fail
  clear cc0 cc1 cc2 cc3 cc4 cc5 cc6 cc7 cc8 lc
  (with_reducible refine (to_is14 c aR cR aD cD n 2 a 0 _ (H.factsW (mt8 (mt8 (mt1 (mt1 (mt1 mh)))))) MM.out (H.cal (mt8 (mt8 (mt1 (mt1 mh))))) bn H3.out).mono ?_)
  rintro e w7 ⟨rfl, hb⟩
  replace H := H.below hb
  clear hb
  have cc0 := H.cell (w.heap.size) 0 (.bool (c.o 0)) mh
  have cc1 := H.cell (w.heap.size) 1 (.bool (c.o 1)) (mt1 mh)
  have cc2 := H.cell (w.heap.size) 2 (.bool (c.o 2)) (mt1 (mt1 mh))
  have cc3 := H.cell (w.heap.size) 3 (.bool (c.o 3)) (mt1 (mt1 (mt1 mh)))
  have cc4 := H.cell (w.heap.size) 4 (.bool (c.o 4)) (mt1 (mt1 (mt1 (mt1 mh))))
  have cc5 := H.cell (w.heap.size) 5 (.bool (c.o 5)) (mt1 (mt1 (mt1 (mt1 (mt1 mh)))))
  have cc6 := H.cell (w.heap.size) 6 (.bool (c.o 6)) (mt1 (mt1 (mt1 (mt1 (mt1 (mt1 mh))))))
  have cc7 := H.cell (w.heap.size) 7 (.slice aR c.nr cR) (mt1 (mt1 (mt1 (mt1 (mt1 (mt1 (mt1 mh)))))))
  have cc8 := H.cell (w.heap.size) 8 (.slice aD c.nd cD) (mt8 mh)
  have lc := H.lt (w.heap.size) 0 (.bool (c.o 0)) mh
  go_wp2_with fail
  clear cc0 cc1 cc2 cc3 cc4 cc5 cc6 cc7 cc8 lc
  (with_reducible refine (to_is14 c aR cR aD cD n 4 a 0 _ (H.factsW (mt8 (mt8 (mt1 (mt1 (mt1 mh)))))) MM.out (H.cal (mt8 (mt8 (mt1 (mt1 mh))))) bn H4.out).mono ?_)
  rintro e w8 ⟨rfl, hb⟩
  replace H := H.below hb
  clear hb
  have cc0 := H.cell (w.heap.size) 0 (.bool (c.o 0)) mh
  have cc1 := H.cell (w.heap.size) 1 (.bool (c.o 1)) (mt1 mh)
  have cc2 := H.cell (w.heap.size) 2 (.bool (c.o 2)) (mt1 (mt1 mh))
  have cc3 := H.cell (w.heap.size) 3 (.bool (c.o 3)) (mt1 (mt1 (mt1 mh)))
  have cc4 := H.cell (w.heap.size) 4 (.bool (c.o 4)) (mt1 (mt1 (mt1 (mt1 mh))))
  have cc5 := H.cell (w.heap.size) 5 (.bool (c.o 5)) (mt1 (mt1 (mt1 (mt1 (mt1 mh)))))
  have cc6 := H.cell (w.heap.size) 6 (.bool (c.o 6)) (mt1 (mt1 (mt1 (mt1 (mt1 (mt1 mh))))))
  have cc7 := H.cell (w.heap.size) 7 (.slice aR c.nr cR) (mt1 (mt1 (mt1 (mt1 (mt1 (mt1 (mt1 mh)))))))
  have cc8 := H.cell (w.heap.size) 8 (.slice aD c.nd cD) (mt8 mh)
  have lc := H.lt (w.heap.size) 0 (.bool (c.o 0)) mh
  go_wp2_with fail
  clear cc0 cc1 cc2 cc3 cc4 cc5 cc6 cc7 cc8 lc
  (with_reducible refine (to_is14 c aR cR aD cD n 1 a 0 _ (H.factsW (mt8 (mt8 (mt1 (mt1 (mt1 mh)))))) MM.out (H.cal (mt8 (mt8 (mt1 (mt1 mh))))) bn H5.out).mono ?_)
  rintro e w9 ⟨rfl, hb⟩
  replace H := H.below hb
  clear hb
  have cc0 := H.cell (w.heap.size) 0 (.bool (c.o 0)) mh
  have cc1 := H.cell (w.heap.size) 1 (.bool (c.o 1)) (mt1 mh)
  have cc2 := H.cell (w.heap.size) 2 (.bool (c.o 2)) (mt1 (mt1 mh))
  have cc3 := H.cell (w.heap.size) 3 (.bool (c.o 3)) (mt1 (mt1 (mt1 mh)))
  have cc4 := H.cell (w.heap.size) 4 (.bool (c.o 4)) (mt1 (mt1 (mt1 (mt1 mh))))
  have cc5 := H.cell (w.heap.size) 5 (.bool (c.o 5)) (mt1 (mt1 (mt1 (mt1 (mt1 mh)))))
  have cc6 := H.cell (w.heap.size) 6 (.bool (c.o 6)) (mt1 (mt1 (mt1 (mt1 (mt1 (mt1 mh))))))
  have cc7 := H.cell (w.heap.size) 7 (.slice aR c.nr cR) (mt1 (mt1 (mt1 (mt1 (mt1 (mt1 (mt1 mh)))))))
  have cc8 := H.cell (w.heap.size) 8 (.slice aD c.nd cD) (mt8 mh)
  have lc := H.lt (w.heap.size) 0 (.bool (c.o 0)) mh
  go_wp2_with fail
  clear cc0 cc1 cc2 cc3 cc4 cc5 cc6 cc7 cc8 lc
  (with_reducible refine (to_is14 c aR cR aD cD n 3 b 0 _ (H.factsW (mt8 (mt8 (mt1 (mt1 (mt1 mh)))))) MM.out (H.cal (mt8 (mt8 (mt1 (mt1 mh))))) bn H6.out).mono ?_)
  rintro e w10 ⟨rfl, hb⟩
  replace H := H.below hb
  clear hb
  go_wp2_with fail
  (with_reducible refine (rof_any n y0 m0 d0 0 _ D1.out).mono ?_)
  rintro e w11 ⟨rfl, hb⟩
  replace H := H.below hb
  clear hb
  go_wp2_with fail
  replace H := (H.triple (w11.heap.size) (.int .i64 y0) (.int .i64 m0) (.int .i64 d0) 46 rfl)
  (with_reducible refine (rof_any a y1 m1 z1 0 _ D2.out).mono ?_)
  rintro e w12 ⟨rfl, hb⟩
  replace H := H.below hb
  clear hb
  go_wp2_with fail
  replace H := (H.triple (w12.heap.size) (.int .i64 y1) (.int .i64 m1) (.int .i64 z1) 46 rfl)
  (with_reducible refine (rof_any b y2 m2 z2 0 _ D3.out).mono ?_)
  rintro e w13 ⟨rfl, hb⟩
  replace H := H.below hb
  clear hb
  have co0 := H.cell (w11.heap.size) 0 (.int .i64 y0) (mt1 (mt1 (mt1 (mt1 (mt1 (mt1 mh))))))
  have co1 := H.cell (w11.heap.size) 1 (.int .i64 m0) (mt1 (mt1 (mt1 (mt1 (mt1 (mt1 (mt1 mh)))))))
  have co2 := H.cell (w11.heap.size) 2 (.int .i64 d0) (mt8 mh)
  have lo := H.lt (w11.heap.size) 0 (.int .i64 y0) (mt1 (mt1 (mt1 (mt1 (mt1 (mt1 mh))))))
  have cr0 := H.cell (w12.heap.size) 0 (.int .i64 y1) mh
  have cr1 := H.cell (w12.heap.size) 1 (.int .i64 m1) (mt1 mh)
  have cr2 := H.cell (w12.heap.size) 2 (.int .i64 z1) (mt1 (mt1 mh))
  have lr := H.lt (w12.heap.size) 0 (.int .i64 y1) mh
  have HOLD := (H.alloc (.cells #[.int .i64 y2, .int .i64 m2, .int .i64 z2] 46)).old
  clear H
  have P := HO.out
  have R := HK.out
  clear HO HK
  cases p1 : (y1 == y0) <;> cases p2 : (m1 == m0) <;> rw [p1, p2] at P <;> first | (exfalso; revert P; decide) | skip
  all_goals
    clear P
    cases q1 : (y2 == y0) <;> cases q2 : (m2 == m0) <;> rw [q1, q2] at R <;> first | (exfalso; revert R; decide) | skip
  all_goals
    clear R
    go_wp2
    go_ret
    exact ⟨rfl, HOLD⟩

set_option maxHeartbeats 8000000 in
set_option maxRecDepth 100000 in
theorem romonth_ft (c : Ca) (aR : Option Addr) (cR : Nat) (aD : Option Addr) (cD : Nat) (n a b y0 m0 d0 y1 m1 z1 y2 m2 z2 : Int) (w : World) (hL : FactsW w) (hCc : CalAt w c aR cR aD cD) (hf : decide (c.nr ≤ 12 ∧ c.nd ≤ 60) = true) (hS : c.Small) (hM : c.May) (hd : decide (1 ≤ n ∧ n ≤ 3652059) = true) (nb : 1 ≤ n ∧ n ≤ 3652059) (bn : -9223372036854775808 ≤ n ∧ n < 9223372036854775808) (h1 : StepIs c 1 n a 0) (h2 : StepIs c (-1) n b 0) (h3 : ToIs c n 2 b 0) (h4 : ToIs c n 4 b 0) (h5 : ToIs c n 1 a 0) (h6 : ToIs c n 3 b 0) (d1 : DayIs n y0 m0 d0 0) (d2 : DayIs a y1 m1 z1 0) (d3 : DayIs b y2 m2 z2 0) (ho : (y1 == y0 && m1 == m0) = false) (hk : (y2 == y0 && m2 == m0) = true) :
    Calls Tryd.prog 5 #[.agg #[.bool (c.o 0), .bool (c.o 1), .bool (c.o 2), .bool (c.o 3), .bool (c.o 4), .bool (c.o 5), .bool (c.o 6), .slice aR c.nr cR, .slice aD c.nd cD], .int .i64 n] w fun e w' => e = .returned (.bool true) ∧ Below w.heap.size w w' := by
  have H := ((Held.start w).add (f := factsWF) hL).add (f := calF c aR cR aD cD) hCc
  clear hL hCc
  have HF := Lib.hid hf
  have HZ := Lib.hid hS
  have MM := Lib.hid hM
  have HD := Lib.hid hd
  have H1 := Lib.hid h1
  have H2 := Lib.hid h2
  have H3 := Lib.hid h3
  have H4 := Lib.hid h4
  have H5 := Lib.hid h5
  have H6 := Lib.hid h6
  have D1 := Lib.hid d1
  have D2 := Lib.hid d2
  have D3 := Lib.hid d3
  have HO := Lib.hid ho
  have HK := Lib.hid hk
  clear hf hS hM hd h1 h2 h3 h4 h5 h6 d1 d2 d3 ho hk
  go_enter Tryd.func5, Tryd.ntmps5
  go_wp2_with fail
  replace H := (H.box_9 (w.heap.size) (.bool (c.o 0)) (.bool (c.o 1)) (.bool (c.o 2)) (.bool (c.o 3)) (.bool (c.o 4)) (.bool (c.o 5)) (.bool (c.o 6)) (.slice aR c.nr cR) (.slice aD c.nd cD) 26 rfl)
  (with_reducible refine (roshown_any _ (H.factsW (mt8 (mt8 (mt1 (mt1 (mt1 mh))))))).mono ?_)
  rintro e w1 ⟨rfl, hb⟩
  replace H := H.below hb
  clear hb
  have cc0 := H.cell (w.heap.size) 0 (.bool (c.o 0)) mh
  have cc1 := H.cell (w.heap.size) 1 (.bool (c.o 1)) (mt1 mh)
  have cc2 := H.cell (w.heap.size) 2 (.bool (c.o 2)) (mt1 (mt1 mh))
  have cc3 := H.cell (w.heap.size) 3 (.bool (c.o 3)) (mt1 (mt1 (mt1 mh)))
  have cc4 := H.cell (w.heap.size) 4 (.bool (c.o 4)) (mt1 (mt1 (mt1 (mt1 mh))))
  have cc5 := H.cell (w.heap.size) 5 (.bool (c.o 5)) (mt1 (mt1 (mt1 (mt1 (mt1 mh)))))
  have cc6 := H.cell (w.heap.size) 6 (.bool (c.o 6)) (mt1 (mt1 (mt1 (mt1 (mt1 (mt1 mh))))))
  have cc7 := H.cell (w.heap.size) 7 (.slice aR c.nr cR) (mt1 (mt1 (mt1 (mt1 (mt1 (mt1 (mt1 mh)))))))
  have cc8 := H.cell (w.heap.size) 8 (.slice aD c.nd cD) (mt8 mh)
  have lc := H.lt (w.heap.size) 0 (.bool (c.o 0)) mh
  go_wp2_with fail
  clear cc0 cc1 cc2 cc3 cc4 cc5 cc6 cc7 cc8 lc
  (with_reducible refine (few_any c aR cR aD cD true _ HF.out).mono ?_)
  rintro e w2 ⟨rfl, hb⟩
  replace H := H.below hb
  clear hb
  have cc0 := H.cell (w.heap.size) 0 (.bool (c.o 0)) mh
  have cc1 := H.cell (w.heap.size) 1 (.bool (c.o 1)) (mt1 mh)
  have cc2 := H.cell (w.heap.size) 2 (.bool (c.o 2)) (mt1 (mt1 mh))
  have cc3 := H.cell (w.heap.size) 3 (.bool (c.o 3)) (mt1 (mt1 (mt1 mh)))
  have cc4 := H.cell (w.heap.size) 4 (.bool (c.o 4)) (mt1 (mt1 (mt1 (mt1 mh))))
  have cc5 := H.cell (w.heap.size) 5 (.bool (c.o 5)) (mt1 (mt1 (mt1 (mt1 (mt1 mh)))))
  have cc6 := H.cell (w.heap.size) 6 (.bool (c.o 6)) (mt1 (mt1 (mt1 (mt1 (mt1 (mt1 mh))))))
  have cc7 := H.cell (w.heap.size) 7 (.slice aR c.nr cR) (mt1 (mt1 (mt1 (mt1 (mt1 (mt1 (mt1 mh)))))))
  have cc8 := H.cell (w.heap.size) 8 (.slice aD c.nd cD) (mt8 mh)
  have lc := H.lt (w.heap.size) 0 (.bool (c.o 0)) mh
  go_wp2_with fail
  clear cc0 cc1 cc2 cc3 cc4 cc5 cc6 cc7 cc8 lc
  (with_reducible refine (rcmay_any c aR cR aD cD true _ HZ.out (H.cal (mt8 (mt8 (mt1 (mt1 mh))))) ⟨fun _ => MM.out, fun _ => rfl⟩).mono ?_)
  rintro e w3 ⟨rfl, hb⟩
  replace H := H.below hb
  clear hb
  have cc0 := H.cell (w.heap.size) 0 (.bool (c.o 0)) mh
  have cc1 := H.cell (w.heap.size) 1 (.bool (c.o 1)) (mt1 mh)
  have cc2 := H.cell (w.heap.size) 2 (.bool (c.o 2)) (mt1 (mt1 mh))
  have cc3 := H.cell (w.heap.size) 3 (.bool (c.o 3)) (mt1 (mt1 (mt1 mh)))
  have cc4 := H.cell (w.heap.size) 4 (.bool (c.o 4)) (mt1 (mt1 (mt1 (mt1 mh))))
  have cc5 := H.cell (w.heap.size) 5 (.bool (c.o 5)) (mt1 (mt1 (mt1 (mt1 (mt1 mh)))))
  have cc6 := H.cell (w.heap.size) 6 (.bool (c.o 6)) (mt1 (mt1 (mt1 (mt1 (mt1 (mt1 mh))))))
  have cc7 := H.cell (w.heap.size) 7 (.slice aR c.nr cR) (mt1 (mt1 (mt1 (mt1 (mt1 (mt1 (mt1 mh)))))))
  have cc8 := H.cell (w.heap.size) 8 (.slice aD c.nd cD) (mt8 mh)
  have lc := H.lt (w.heap.size) 0 (.bool (c.o 0)) mh
  go_wp2_with fail
  clear cc0 cc1 cc2 cc3 cc4 cc5 cc6 cc7 cc8 lc
  (with_reducible refine (Calls.same (rday13_is n true _ HD.out)).mono ?_)
  rintro e w4 ⟨rfl, hb⟩
  replace H := H.below hb
  clear hb
  have cc0 := H.cell (w.heap.size) 0 (.bool (c.o 0)) mh
  have cc1 := H.cell (w.heap.size) 1 (.bool (c.o 1)) (mt1 mh)
  have cc2 := H.cell (w.heap.size) 2 (.bool (c.o 2)) (mt1 (mt1 mh))
  have cc3 := H.cell (w.heap.size) 3 (.bool (c.o 3)) (mt1 (mt1 (mt1 mh)))
  have cc4 := H.cell (w.heap.size) 4 (.bool (c.o 4)) (mt1 (mt1 (mt1 (mt1 mh))))
  have cc5 := H.cell (w.heap.size) 5 (.bool (c.o 5)) (mt1 (mt1 (mt1 (mt1 (mt1 mh)))))
  have cc6 := H.cell (w.heap.size) 6 (.bool (c.o 6)) (mt1 (mt1 (mt1 (mt1 (mt1 (mt1 mh))))))
  have cc7 := H.cell (w.heap.size) 7 (.slice aR c.nr cR) (mt1 (mt1 (mt1 (mt1 (mt1 (mt1 (mt1 mh)))))))
  have cc8 := H.cell (w.heap.size) 8 (.slice aD c.nd cD) (mt8 mh)
  have lc := H.lt (w.heap.size) 0 (.bool (c.o 0)) mh
  go_wp2_with fail
  clear cc0 cc1 cc2 cc3 cc4 cc5 cc6 cc7 cc8 lc
  (with_reducible refine (next_is c aR cR aD cD n a 0 _ (H.factsW (mt8 (mt8 (mt1 (mt1 (mt1 mh)))))) MM.out (H.cal (mt8 (mt8 (mt1 (mt1 mh))))) bn H1.out).mono ?_)
  rintro e w5 ⟨rfl, hb⟩
  replace H := H.below hb
  clear hb
  have cc0 := H.cell (w.heap.size) 0 (.bool (c.o 0)) mh
  have cc1 := H.cell (w.heap.size) 1 (.bool (c.o 1)) (mt1 mh)
  have cc2 := H.cell (w.heap.size) 2 (.bool (c.o 2)) (mt1 (mt1 mh))
  have cc3 := H.cell (w.heap.size) 3 (.bool (c.o 3)) (mt1 (mt1 (mt1 mh)))
  have cc4 := H.cell (w.heap.size) 4 (.bool (c.o 4)) (mt1 (mt1 (mt1 (mt1 mh))))
  have cc5 := H.cell (w.heap.size) 5 (.bool (c.o 5)) (mt1 (mt1 (mt1 (mt1 (mt1 mh)))))
  have cc6 := H.cell (w.heap.size) 6 (.bool (c.o 6)) (mt1 (mt1 (mt1 (mt1 (mt1 (mt1 mh))))))
  have cc7 := H.cell (w.heap.size) 7 (.slice aR c.nr cR) (mt1 (mt1 (mt1 (mt1 (mt1 (mt1 (mt1 mh)))))))
  have cc8 := H.cell (w.heap.size) 8 (.slice aD c.nd cD) (mt8 mh)
  have lc := H.lt (w.heap.size) 0 (.bool (c.o 0)) mh
  go_wp2_with fail
  clear cc0 cc1 cc2 cc3 cc4 cc5 cc6 cc7 cc8 lc
  (with_reducible refine (prev_is c aR cR aD cD n b 0 _ (H.factsW (mt8 (mt8 (mt1 (mt1 (mt1 mh)))))) MM.out (H.cal (mt8 (mt8 (mt1 (mt1 mh))))) bn H2.out).mono ?_)
  rintro e w6 ⟨rfl, hb⟩
  replace H := H.below hb
  clear hb
  have cc0 := H.cell (w.heap.size) 0 (.bool (c.o 0)) mh
  have cc1 := H.cell (w.heap.size) 1 (.bool (c.o 1)) (mt1 mh)
  have cc2 := H.cell (w.heap.size) 2 (.bool (c.o 2)) (mt1 (mt1 mh))
  have cc3 := H.cell (w.heap.size) 3 (.bool (c.o 3)) (mt1 (mt1 (mt1 mh)))
  have cc4 := H.cell (w.heap.size) 4 (.bool (c.o 4)) (mt1 (mt1 (mt1 (mt1 mh))))
  have cc5 := H.cell (w.heap.size) 5 (.bool (c.o 5)) (mt1 (mt1 (mt1 (mt1 (mt1 mh)))))
  have cc6 := H.cell (w.heap.size) 6 (.bool (c.o 6)) (mt1 (mt1 (mt1 (mt1 (mt1 (mt1 mh))))))
  have cc7 := H.cell (w.heap.size) 7 (.slice aR c.nr cR) (mt1 (mt1 (mt1 (mt1 (mt1 (mt1 (mt1 mh)))))))
  have cc8 := H.cell (w.heap.size) 8 (.slice aD c.nd cD) (mt8 mh)
  have lc := H.lt (w.heap.size) 0 (.bool (c.o 0)) mh
  go_wp2_with fail
  clear cc0 cc1 cc2 cc3 cc4 cc5 cc6 cc7 cc8 lc
  (with_reducible refine (to_is14 c aR cR aD cD n 2 b 0 _ (H.factsW (mt8 (mt8 (mt1 (mt1 (mt1 mh)))))) MM.out (H.cal (mt8 (mt8 (mt1 (mt1 mh))))) bn H3.out).mono ?_)
  rintro e w7 ⟨rfl, hb⟩
  replace H := H.below hb
  clear hb
  have cc0 := H.cell (w.heap.size) 0 (.bool (c.o 0)) mh
  have cc1 := H.cell (w.heap.size) 1 (.bool (c.o 1)) (mt1 mh)
  have cc2 := H.cell (w.heap.size) 2 (.bool (c.o 2)) (mt1 (mt1 mh))
  have cc3 := H.cell (w.heap.size) 3 (.bool (c.o 3)) (mt1 (mt1 (mt1 mh)))
  have cc4 := H.cell (w.heap.size) 4 (.bool (c.o 4)) (mt1 (mt1 (mt1 (mt1 mh))))
  have cc5 := H.cell (w.heap.size) 5 (.bool (c.o 5)) (mt1 (mt1 (mt1 (mt1 (mt1 mh)))))
  have cc6 := H.cell (w.heap.size) 6 (.bool (c.o 6)) (mt1 (mt1 (mt1 (mt1 (mt1 (mt1 mh))))))
  have cc7 := H.cell (w.heap.size) 7 (.slice aR c.nr cR) (mt1 (mt1 (mt1 (mt1 (mt1 (mt1 (mt1 mh)))))))
  have cc8 := H.cell (w.heap.size) 8 (.slice aD c.nd cD) (mt8 mh)
  have lc := H.lt (w.heap.size) 0 (.bool (c.o 0)) mh
  go_wp2_with fail
  clear cc0 cc1 cc2 cc3 cc4 cc5 cc6 cc7 cc8 lc
  (with_reducible refine (to_is14 c aR cR aD cD n 4 b 0 _ (H.factsW (mt8 (mt8 (mt1 (mt1 (mt1 mh)))))) MM.out (H.cal (mt8 (mt8 (mt1 (mt1 mh))))) bn H4.out).mono ?_)
  rintro e w8 ⟨rfl, hb⟩
  replace H := H.below hb
  clear hb
  have cc0 := H.cell (w.heap.size) 0 (.bool (c.o 0)) mh
  have cc1 := H.cell (w.heap.size) 1 (.bool (c.o 1)) (mt1 mh)
  have cc2 := H.cell (w.heap.size) 2 (.bool (c.o 2)) (mt1 (mt1 mh))
  have cc3 := H.cell (w.heap.size) 3 (.bool (c.o 3)) (mt1 (mt1 (mt1 mh)))
  have cc4 := H.cell (w.heap.size) 4 (.bool (c.o 4)) (mt1 (mt1 (mt1 (mt1 mh))))
  have cc5 := H.cell (w.heap.size) 5 (.bool (c.o 5)) (mt1 (mt1 (mt1 (mt1 (mt1 mh)))))
  have cc6 := H.cell (w.heap.size) 6 (.bool (c.o 6)) (mt1 (mt1 (mt1 (mt1 (mt1 (mt1 mh))))))
  have cc7 := H.cell (w.heap.size) 7 (.slice aR c.nr cR) (mt1 (mt1 (mt1 (mt1 (mt1 (mt1 (mt1 mh)))))))
  have cc8 := H.cell (w.heap.size) 8 (.slice aD c.nd cD) (mt8 mh)
  have lc := H.lt (w.heap.size) 0 (.bool (c.o 0)) mh
  go_wp2_with fail
  clear cc0 cc1 cc2 cc3 cc4 cc5 cc6 cc7 cc8 lc
  (with_reducible refine (to_is14 c aR cR aD cD n 1 a 0 _ (H.factsW (mt8 (mt8 (mt1 (mt1 (mt1 mh)))))) MM.out (H.cal (mt8 (mt8 (mt1 (mt1 mh))))) bn H5.out).mono ?_)
  rintro e w9 ⟨rfl, hb⟩
  replace H := H.below hb
  clear hb
  have cc0 := H.cell (w.heap.size) 0 (.bool (c.o 0)) mh
  have cc1 := H.cell (w.heap.size) 1 (.bool (c.o 1)) (mt1 mh)
  have cc2 := H.cell (w.heap.size) 2 (.bool (c.o 2)) (mt1 (mt1 mh))
  have cc3 := H.cell (w.heap.size) 3 (.bool (c.o 3)) (mt1 (mt1 (mt1 mh)))
  have cc4 := H.cell (w.heap.size) 4 (.bool (c.o 4)) (mt1 (mt1 (mt1 (mt1 mh))))
  have cc5 := H.cell (w.heap.size) 5 (.bool (c.o 5)) (mt1 (mt1 (mt1 (mt1 (mt1 mh)))))
  have cc6 := H.cell (w.heap.size) 6 (.bool (c.o 6)) (mt1 (mt1 (mt1 (mt1 (mt1 (mt1 mh))))))
  have cc7 := H.cell (w.heap.size) 7 (.slice aR c.nr cR) (mt1 (mt1 (mt1 (mt1 (mt1 (mt1 (mt1 mh)))))))
  have cc8 := H.cell (w.heap.size) 8 (.slice aD c.nd cD) (mt8 mh)
  have lc := H.lt (w.heap.size) 0 (.bool (c.o 0)) mh
  go_wp2_with fail
  clear cc0 cc1 cc2 cc3 cc4 cc5 cc6 cc7 cc8 lc
  (with_reducible refine (to_is14 c aR cR aD cD n 3 b 0 _ (H.factsW (mt8 (mt8 (mt1 (mt1 (mt1 mh)))))) MM.out (H.cal (mt8 (mt8 (mt1 (mt1 mh))))) bn H6.out).mono ?_)
  rintro e w10 ⟨rfl, hb⟩
  replace H := H.below hb
  clear hb
  go_wp2_with fail
  (with_reducible refine (rof_any n y0 m0 d0 0 _ D1.out).mono ?_)
  rintro e w11 ⟨rfl, hb⟩
  replace H := H.below hb
  clear hb
  go_wp2_with fail
  replace H := (H.triple (w11.heap.size) (.int .i64 y0) (.int .i64 m0) (.int .i64 d0) 46 rfl)
  (with_reducible refine (rof_any a y1 m1 z1 0 _ D2.out).mono ?_)
  rintro e w12 ⟨rfl, hb⟩
  replace H := H.below hb
  clear hb
  go_wp2_with fail
  replace H := (H.triple (w12.heap.size) (.int .i64 y1) (.int .i64 m1) (.int .i64 z1) 46 rfl)
  (with_reducible refine (rof_any b y2 m2 z2 0 _ D3.out).mono ?_)
  rintro e w13 ⟨rfl, hb⟩
  replace H := H.below hb
  clear hb
  have co0 := H.cell (w11.heap.size) 0 (.int .i64 y0) (mt1 (mt1 (mt1 (mt1 (mt1 (mt1 mh))))))
  have co1 := H.cell (w11.heap.size) 1 (.int .i64 m0) (mt1 (mt1 (mt1 (mt1 (mt1 (mt1 (mt1 mh)))))))
  have co2 := H.cell (w11.heap.size) 2 (.int .i64 d0) (mt8 mh)
  have lo := H.lt (w11.heap.size) 0 (.int .i64 y0) (mt1 (mt1 (mt1 (mt1 (mt1 (mt1 mh))))))
  have cr0 := H.cell (w12.heap.size) 0 (.int .i64 y1) mh
  have cr1 := H.cell (w12.heap.size) 1 (.int .i64 m1) (mt1 mh)
  have cr2 := H.cell (w12.heap.size) 2 (.int .i64 z1) (mt1 (mt1 mh))
  have lr := H.lt (w12.heap.size) 0 (.int .i64 y1) mh
  have HOLD := (H.alloc (.cells #[.int .i64 y2, .int .i64 m2, .int .i64 z2] 46)).old
  clear H
  have P := HO.out
  have R := HK.out
  clear HO HK
  cases p1 : (y1 == y0) <;> cases p2 : (m1 == m0) <;> rw [p1, p2] at P <;> first | (exfalso; revert P; decide) | skip
  all_goals
    clear P
    cases q1 : (y2 == y0) <;> cases q2 : (m2 == m0) <;> rw [q1, q2] at R <;> first | (exfalso; revert R; decide) | skip
  all_goals
    clear R
    go_wp2
    go_ret
    exact ⟨rfl, HOLD⟩

set_option maxHeartbeats 8000000 in
set_option maxRecDepth 100000 in
theorem romonth_ff (c : Ca) (aR : Option Addr) (cR : Nat) (aD : Option Addr) (cD : Nat) (n a b y0 m0 d0 y1 m1 z1 y2 m2 z2 : Int) (w : World) (hL : FactsW w) (hCc : CalAt w c aR cR aD cD) (hf : decide (c.nr ≤ 12 ∧ c.nd ≤ 60) = true) (hS : c.Small) (hM : c.May) (hd : decide (1 ≤ n ∧ n ≤ 3652059) = true) (nb : 1 ≤ n ∧ n ≤ 3652059) (bn : -9223372036854775808 ≤ n ∧ n < 9223372036854775808) (h1 : StepIs c 1 n a 0) (h2 : StepIs c (-1) n b 0) (h3 : ToIs c n 2 b 0) (h4 : ToIs c n 4 a 0) (h5 : ToIs c n 1 a 0) (h6 : ToIs c n 3 b 0) (d1 : DayIs n y0 m0 d0 0) (d2 : DayIs a y1 m1 z1 0) (d3 : DayIs b y2 m2 z2 0) (ho : (y1 == y0 && m1 == m0) = false) (hk : (y2 == y0 && m2 == m0) = false) :
    Calls Tryd.prog 5 #[.agg #[.bool (c.o 0), .bool (c.o 1), .bool (c.o 2), .bool (c.o 3), .bool (c.o 4), .bool (c.o 5), .bool (c.o 6), .slice aR c.nr cR, .slice aD c.nd cD], .int .i64 n] w fun e w' => e = .returned (.bool true) ∧ Below w.heap.size w w' := by
  have H := ((Held.start w).add (f := factsWF) hL).add (f := calF c aR cR aD cD) hCc
  clear hL hCc
  have HF := Lib.hid hf
  have HZ := Lib.hid hS
  have MM := Lib.hid hM
  have HD := Lib.hid hd
  have H1 := Lib.hid h1
  have H2 := Lib.hid h2
  have H3 := Lib.hid h3
  have H4 := Lib.hid h4
  have H5 := Lib.hid h5
  have H6 := Lib.hid h6
  have D1 := Lib.hid d1
  have D2 := Lib.hid d2
  have D3 := Lib.hid d3
  have HO := Lib.hid ho
  have HK := Lib.hid hk
  clear hf hS hM hd h1 h2 h3 h4 h5 h6 d1 d2 d3 ho hk
  go_enter Tryd.func5, Tryd.ntmps5
  go_wp2_with fail
  replace H := (H.box_9 (w.heap.size) (.bool (c.o 0)) (.bool (c.o 1)) (.bool (c.o 2)) (.bool (c.o 3)) (.bool (c.o 4)) (.bool (c.o 5)) (.bool (c.o 6)) (.slice aR c.nr cR) (.slice aD c.nd cD) 26 rfl)
  (with_reducible refine (roshown_any _ (H.factsW (mt8 (mt8 (mt1 (mt1 (mt1 mh))))))).mono ?_)
  rintro e w1 ⟨rfl, hb⟩
  replace H := H.below hb
  clear hb
  have cc0 := H.cell (w.heap.size) 0 (.bool (c.o 0)) mh
  have cc1 := H.cell (w.heap.size) 1 (.bool (c.o 1)) (mt1 mh)
  have cc2 := H.cell (w.heap.size) 2 (.bool (c.o 2)) (mt1 (mt1 mh))
  have cc3 := H.cell (w.heap.size) 3 (.bool (c.o 3)) (mt1 (mt1 (mt1 mh)))
  have cc4 := H.cell (w.heap.size) 4 (.bool (c.o 4)) (mt1 (mt1 (mt1 (mt1 mh))))
  have cc5 := H.cell (w.heap.size) 5 (.bool (c.o 5)) (mt1 (mt1 (mt1 (mt1 (mt1 mh)))))
  have cc6 := H.cell (w.heap.size) 6 (.bool (c.o 6)) (mt1 (mt1 (mt1 (mt1 (mt1 (mt1 mh))))))
  have cc7 := H.cell (w.heap.size) 7 (.slice aR c.nr cR) (mt1 (mt1 (mt1 (mt1 (mt1 (mt1 (mt1 mh)))))))
  have cc8 := H.cell (w.heap.size) 8 (.slice aD c.nd cD) (mt8 mh)
  have lc := H.lt (w.heap.size) 0 (.bool (c.o 0)) mh
  go_wp2_with fail
  clear cc0 cc1 cc2 cc3 cc4 cc5 cc6 cc7 cc8 lc
  (with_reducible refine (few_any c aR cR aD cD true _ HF.out).mono ?_)
  rintro e w2 ⟨rfl, hb⟩
  replace H := H.below hb
  clear hb
  have cc0 := H.cell (w.heap.size) 0 (.bool (c.o 0)) mh
  have cc1 := H.cell (w.heap.size) 1 (.bool (c.o 1)) (mt1 mh)
  have cc2 := H.cell (w.heap.size) 2 (.bool (c.o 2)) (mt1 (mt1 mh))
  have cc3 := H.cell (w.heap.size) 3 (.bool (c.o 3)) (mt1 (mt1 (mt1 mh)))
  have cc4 := H.cell (w.heap.size) 4 (.bool (c.o 4)) (mt1 (mt1 (mt1 (mt1 mh))))
  have cc5 := H.cell (w.heap.size) 5 (.bool (c.o 5)) (mt1 (mt1 (mt1 (mt1 (mt1 mh)))))
  have cc6 := H.cell (w.heap.size) 6 (.bool (c.o 6)) (mt1 (mt1 (mt1 (mt1 (mt1 (mt1 mh))))))
  have cc7 := H.cell (w.heap.size) 7 (.slice aR c.nr cR) (mt1 (mt1 (mt1 (mt1 (mt1 (mt1 (mt1 mh)))))))
  have cc8 := H.cell (w.heap.size) 8 (.slice aD c.nd cD) (mt8 mh)
  have lc := H.lt (w.heap.size) 0 (.bool (c.o 0)) mh
  go_wp2_with fail
  clear cc0 cc1 cc2 cc3 cc4 cc5 cc6 cc7 cc8 lc
  (with_reducible refine (rcmay_any c aR cR aD cD true _ HZ.out (H.cal (mt8 (mt8 (mt1 (mt1 mh))))) ⟨fun _ => MM.out, fun _ => rfl⟩).mono ?_)
  rintro e w3 ⟨rfl, hb⟩
  replace H := H.below hb
  clear hb
  have cc0 := H.cell (w.heap.size) 0 (.bool (c.o 0)) mh
  have cc1 := H.cell (w.heap.size) 1 (.bool (c.o 1)) (mt1 mh)
  have cc2 := H.cell (w.heap.size) 2 (.bool (c.o 2)) (mt1 (mt1 mh))
  have cc3 := H.cell (w.heap.size) 3 (.bool (c.o 3)) (mt1 (mt1 (mt1 mh)))
  have cc4 := H.cell (w.heap.size) 4 (.bool (c.o 4)) (mt1 (mt1 (mt1 (mt1 mh))))
  have cc5 := H.cell (w.heap.size) 5 (.bool (c.o 5)) (mt1 (mt1 (mt1 (mt1 (mt1 mh)))))
  have cc6 := H.cell (w.heap.size) 6 (.bool (c.o 6)) (mt1 (mt1 (mt1 (mt1 (mt1 (mt1 mh))))))
  have cc7 := H.cell (w.heap.size) 7 (.slice aR c.nr cR) (mt1 (mt1 (mt1 (mt1 (mt1 (mt1 (mt1 mh)))))))
  have cc8 := H.cell (w.heap.size) 8 (.slice aD c.nd cD) (mt8 mh)
  have lc := H.lt (w.heap.size) 0 (.bool (c.o 0)) mh
  go_wp2_with fail
  clear cc0 cc1 cc2 cc3 cc4 cc5 cc6 cc7 cc8 lc
  (with_reducible refine (Calls.same (rday13_is n true _ HD.out)).mono ?_)
  rintro e w4 ⟨rfl, hb⟩
  replace H := H.below hb
  clear hb
  have cc0 := H.cell (w.heap.size) 0 (.bool (c.o 0)) mh
  have cc1 := H.cell (w.heap.size) 1 (.bool (c.o 1)) (mt1 mh)
  have cc2 := H.cell (w.heap.size) 2 (.bool (c.o 2)) (mt1 (mt1 mh))
  have cc3 := H.cell (w.heap.size) 3 (.bool (c.o 3)) (mt1 (mt1 (mt1 mh)))
  have cc4 := H.cell (w.heap.size) 4 (.bool (c.o 4)) (mt1 (mt1 (mt1 (mt1 mh))))
  have cc5 := H.cell (w.heap.size) 5 (.bool (c.o 5)) (mt1 (mt1 (mt1 (mt1 (mt1 mh)))))
  have cc6 := H.cell (w.heap.size) 6 (.bool (c.o 6)) (mt1 (mt1 (mt1 (mt1 (mt1 (mt1 mh))))))
  have cc7 := H.cell (w.heap.size) 7 (.slice aR c.nr cR) (mt1 (mt1 (mt1 (mt1 (mt1 (mt1 (mt1 mh)))))))
  have cc8 := H.cell (w.heap.size) 8 (.slice aD c.nd cD) (mt8 mh)
  have lc := H.lt (w.heap.size) 0 (.bool (c.o 0)) mh
  go_wp2_with fail
  clear cc0 cc1 cc2 cc3 cc4 cc5 cc6 cc7 cc8 lc
  (with_reducible refine (next_is c aR cR aD cD n a 0 _ (H.factsW (mt8 (mt8 (mt1 (mt1 (mt1 mh)))))) MM.out (H.cal (mt8 (mt8 (mt1 (mt1 mh))))) bn H1.out).mono ?_)
  rintro e w5 ⟨rfl, hb⟩
  replace H := H.below hb
  clear hb
  have cc0 := H.cell (w.heap.size) 0 (.bool (c.o 0)) mh
  have cc1 := H.cell (w.heap.size) 1 (.bool (c.o 1)) (mt1 mh)
  have cc2 := H.cell (w.heap.size) 2 (.bool (c.o 2)) (mt1 (mt1 mh))
  have cc3 := H.cell (w.heap.size) 3 (.bool (c.o 3)) (mt1 (mt1 (mt1 mh)))
  have cc4 := H.cell (w.heap.size) 4 (.bool (c.o 4)) (mt1 (mt1 (mt1 (mt1 mh))))
  have cc5 := H.cell (w.heap.size) 5 (.bool (c.o 5)) (mt1 (mt1 (mt1 (mt1 (mt1 mh)))))
  have cc6 := H.cell (w.heap.size) 6 (.bool (c.o 6)) (mt1 (mt1 (mt1 (mt1 (mt1 (mt1 mh))))))
  have cc7 := H.cell (w.heap.size) 7 (.slice aR c.nr cR) (mt1 (mt1 (mt1 (mt1 (mt1 (mt1 (mt1 mh)))))))
  have cc8 := H.cell (w.heap.size) 8 (.slice aD c.nd cD) (mt8 mh)
  have lc := H.lt (w.heap.size) 0 (.bool (c.o 0)) mh
  go_wp2_with fail
  clear cc0 cc1 cc2 cc3 cc4 cc5 cc6 cc7 cc8 lc
  (with_reducible refine (prev_is c aR cR aD cD n b 0 _ (H.factsW (mt8 (mt8 (mt1 (mt1 (mt1 mh)))))) MM.out (H.cal (mt8 (mt8 (mt1 (mt1 mh))))) bn H2.out).mono ?_)
  rintro e w6 ⟨rfl, hb⟩
  replace H := H.below hb
  clear hb
  have cc0 := H.cell (w.heap.size) 0 (.bool (c.o 0)) mh
  have cc1 := H.cell (w.heap.size) 1 (.bool (c.o 1)) (mt1 mh)
  have cc2 := H.cell (w.heap.size) 2 (.bool (c.o 2)) (mt1 (mt1 mh))
  have cc3 := H.cell (w.heap.size) 3 (.bool (c.o 3)) (mt1 (mt1 (mt1 mh)))
  have cc4 := H.cell (w.heap.size) 4 (.bool (c.o 4)) (mt1 (mt1 (mt1 (mt1 mh))))
  have cc5 := H.cell (w.heap.size) 5 (.bool (c.o 5)) (mt1 (mt1 (mt1 (mt1 (mt1 mh)))))
  have cc6 := H.cell (w.heap.size) 6 (.bool (c.o 6)) (mt1 (mt1 (mt1 (mt1 (mt1 (mt1 mh))))))
  have cc7 := H.cell (w.heap.size) 7 (.slice aR c.nr cR) (mt1 (mt1 (mt1 (mt1 (mt1 (mt1 (mt1 mh)))))))
  have cc8 := H.cell (w.heap.size) 8 (.slice aD c.nd cD) (mt8 mh)
  have lc := H.lt (w.heap.size) 0 (.bool (c.o 0)) mh
  go_wp2_with fail
  clear cc0 cc1 cc2 cc3 cc4 cc5 cc6 cc7 cc8 lc
  (with_reducible refine (to_is14 c aR cR aD cD n 2 b 0 _ (H.factsW (mt8 (mt8 (mt1 (mt1 (mt1 mh)))))) MM.out (H.cal (mt8 (mt8 (mt1 (mt1 mh))))) bn H3.out).mono ?_)
  rintro e w7 ⟨rfl, hb⟩
  replace H := H.below hb
  clear hb
  have cc0 := H.cell (w.heap.size) 0 (.bool (c.o 0)) mh
  have cc1 := H.cell (w.heap.size) 1 (.bool (c.o 1)) (mt1 mh)
  have cc2 := H.cell (w.heap.size) 2 (.bool (c.o 2)) (mt1 (mt1 mh))
  have cc3 := H.cell (w.heap.size) 3 (.bool (c.o 3)) (mt1 (mt1 (mt1 mh)))
  have cc4 := H.cell (w.heap.size) 4 (.bool (c.o 4)) (mt1 (mt1 (mt1 (mt1 mh))))
  have cc5 := H.cell (w.heap.size) 5 (.bool (c.o 5)) (mt1 (mt1 (mt1 (mt1 (mt1 mh)))))
  have cc6 := H.cell (w.heap.size) 6 (.bool (c.o 6)) (mt1 (mt1 (mt1 (mt1 (mt1 (mt1 mh))))))
  have cc7 := H.cell (w.heap.size) 7 (.slice aR c.nr cR) (mt1 (mt1 (mt1 (mt1 (mt1 (mt1 (mt1 mh)))))))
  have cc8 := H.cell (w.heap.size) 8 (.slice aD c.nd cD) (mt8 mh)
  have lc := H.lt (w.heap.size) 0 (.bool (c.o 0)) mh
  go_wp2_with fail
  clear cc0 cc1 cc2 cc3 cc4 cc5 cc6 cc7 cc8 lc
  (with_reducible refine (to_is14 c aR cR aD cD n 4 a 0 _ (H.factsW (mt8 (mt8 (mt1 (mt1 (mt1 mh)))))) MM.out (H.cal (mt8 (mt8 (mt1 (mt1 mh))))) bn H4.out).mono ?_)
  rintro e w8 ⟨rfl, hb⟩
  replace H := H.below hb
  clear hb
  have cc0 := H.cell (w.heap.size) 0 (.bool (c.o 0)) mh
  have cc1 := H.cell (w.heap.size) 1 (.bool (c.o 1)) (mt1 mh)
  have cc2 := H.cell (w.heap.size) 2 (.bool (c.o 2)) (mt1 (mt1 mh))
  have cc3 := H.cell (w.heap.size) 3 (.bool (c.o 3)) (mt1 (mt1 (mt1 mh)))
  have cc4 := H.cell (w.heap.size) 4 (.bool (c.o 4)) (mt1 (mt1 (mt1 (mt1 mh))))
  have cc5 := H.cell (w.heap.size) 5 (.bool (c.o 5)) (mt1 (mt1 (mt1 (mt1 (mt1 mh)))))
  have cc6 := H.cell (w.heap.size) 6 (.bool (c.o 6)) (mt1 (mt1 (mt1 (mt1 (mt1 (mt1 mh))))))
  have cc7 := H.cell (w.heap.size) 7 (.slice aR c.nr cR) (mt1 (mt1 (mt1 (mt1 (mt1 (mt1 (mt1 mh)))))))
  have cc8 := H.cell (w.heap.size) 8 (.slice aD c.nd cD) (mt8 mh)
  have lc := H.lt (w.heap.size) 0 (.bool (c.o 0)) mh
  go_wp2_with fail
  clear cc0 cc1 cc2 cc3 cc4 cc5 cc6 cc7 cc8 lc
  (with_reducible refine (to_is14 c aR cR aD cD n 1 a 0 _ (H.factsW (mt8 (mt8 (mt1 (mt1 (mt1 mh)))))) MM.out (H.cal (mt8 (mt8 (mt1 (mt1 mh))))) bn H5.out).mono ?_)
  rintro e w9 ⟨rfl, hb⟩
  replace H := H.below hb
  clear hb
  have cc0 := H.cell (w.heap.size) 0 (.bool (c.o 0)) mh
  have cc1 := H.cell (w.heap.size) 1 (.bool (c.o 1)) (mt1 mh)
  have cc2 := H.cell (w.heap.size) 2 (.bool (c.o 2)) (mt1 (mt1 mh))
  have cc3 := H.cell (w.heap.size) 3 (.bool (c.o 3)) (mt1 (mt1 (mt1 mh)))
  have cc4 := H.cell (w.heap.size) 4 (.bool (c.o 4)) (mt1 (mt1 (mt1 (mt1 mh))))
  have cc5 := H.cell (w.heap.size) 5 (.bool (c.o 5)) (mt1 (mt1 (mt1 (mt1 (mt1 mh)))))
  have cc6 := H.cell (w.heap.size) 6 (.bool (c.o 6)) (mt1 (mt1 (mt1 (mt1 (mt1 (mt1 mh))))))
  have cc7 := H.cell (w.heap.size) 7 (.slice aR c.nr cR) (mt1 (mt1 (mt1 (mt1 (mt1 (mt1 (mt1 mh)))))))
  have cc8 := H.cell (w.heap.size) 8 (.slice aD c.nd cD) (mt8 mh)
  have lc := H.lt (w.heap.size) 0 (.bool (c.o 0)) mh
  go_wp2_with fail
  clear cc0 cc1 cc2 cc3 cc4 cc5 cc6 cc7 cc8 lc
  (with_reducible refine (to_is14 c aR cR aD cD n 3 b 0 _ (H.factsW (mt8 (mt8 (mt1 (mt1 (mt1 mh)))))) MM.out (H.cal (mt8 (mt8 (mt1 (mt1 mh))))) bn H6.out).mono ?_)
  rintro e w10 ⟨rfl, hb⟩
  replace H := H.below hb
  clear hb
  go_wp2_with fail
  (with_reducible refine (rof_any n y0 m0 d0 0 _ D1.out).mono ?_)
  rintro e w11 ⟨rfl, hb⟩
  replace H := H.below hb
  clear hb
  go_wp2_with fail
  replace H := (H.triple (w11.heap.size) (.int .i64 y0) (.int .i64 m0) (.int .i64 d0) 46 rfl)
  (with_reducible refine (rof_any a y1 m1 z1 0 _ D2.out).mono ?_)
  rintro e w12 ⟨rfl, hb⟩
  replace H := H.below hb
  clear hb
  go_wp2_with fail
  replace H := (H.triple (w12.heap.size) (.int .i64 y1) (.int .i64 m1) (.int .i64 z1) 46 rfl)
  (with_reducible refine (rof_any b y2 m2 z2 0 _ D3.out).mono ?_)
  rintro e w13 ⟨rfl, hb⟩
  replace H := H.below hb
  clear hb
  have co0 := H.cell (w11.heap.size) 0 (.int .i64 y0) (mt1 (mt1 (mt1 (mt1 (mt1 (mt1 mh))))))
  have co1 := H.cell (w11.heap.size) 1 (.int .i64 m0) (mt1 (mt1 (mt1 (mt1 (mt1 (mt1 (mt1 mh)))))))
  have co2 := H.cell (w11.heap.size) 2 (.int .i64 d0) (mt8 mh)
  have lo := H.lt (w11.heap.size) 0 (.int .i64 y0) (mt1 (mt1 (mt1 (mt1 (mt1 (mt1 mh))))))
  have cr0 := H.cell (w12.heap.size) 0 (.int .i64 y1) mh
  have cr1 := H.cell (w12.heap.size) 1 (.int .i64 m1) (mt1 mh)
  have cr2 := H.cell (w12.heap.size) 2 (.int .i64 z1) (mt1 (mt1 mh))
  have lr := H.lt (w12.heap.size) 0 (.int .i64 y1) mh
  have HOLD := (H.alloc (.cells #[.int .i64 y2, .int .i64 m2, .int .i64 z2] 46)).old
  clear H
  have P := HO.out
  have R := HK.out
  clear HO HK
  cases p1 : (y1 == y0) <;> cases p2 : (m1 == m0) <;> rw [p1, p2] at P <;> first | (exfalso; revert P; decide) | skip
  all_goals
    clear P
    cases q1 : (y2 == y0) <;> cases q2 : (m2 == m0) <;> rw [q1, q2] at R <;> first | (exfalso; revert R; decide) | skip
  all_goals
    clear R
    go_wp2
    go_ret
    exact ⟨rfl, HOLD⟩

theorem romonth_walk (c : Ca) (aR : Option Addr) (cR : Nat) (aD : Option Addr) (cD : Nat) (n : Int) (w : World) (hL : FactsW w) (hC : CalAt w c aR cR aD cD) (bn : -9223372036854775808 ≤ n ∧ n < 9223372036854775808) :
    Calls Tryd.prog 5 #[.agg #[.bool (c.o 0), .bool (c.o 1), .bool (c.o 2), .bool (c.o 3), .bool (c.o 4), .bool (c.o 5), .bool (c.o 6), .slice aR c.nr cR, .slice aD c.nd cD], .int .i64 n] w fun e w' => e = .returned (.bool true) ∧ Below w.heap.size w w' := by
  by_cases hf : c.Few
  · by_cases hm : c.May
    · by_cases hd : 1 ≤ n ∧ n ≤ 3652059
      · obtain ⟨a, e, h1⟩ := step_is c 1 n
        obtain ⟨b, f, h2⟩ := step_is c (-1) n
        obtain ⟨x, i, h3⟩ := mod_is c 1 (-1) n
        obtain ⟨y, j, h4⟩ := mod_is c (-1) 1 n
        have t3 : ToIs c n 2 x i := Or.inr (Or.inr (Or.inl ⟨rfl, h3⟩))
        have t4 : ToIs c n 4 y j := Or.inr (Or.inr (Or.inr (Or.inr (Or.inl ⟨rfl, h4⟩))))
        have t5 : ToIs c n 1 a e := Or.inr (Or.inl ⟨rfl, h1⟩)
        have t6 : ToIs c n 3 b f := Or.inr (Or.inr (Or.inr (Or.inl ⟨rfl, h2⟩)))
        by_cases he : e = 0
        · subst he
          by_cases hg : f = 0
          · subst hg
            obtain ⟨rfl, x1, x2⟩ := h3.both h1 h2
            obtain ⟨rfl, y1, y2⟩ := h4.both h2 h1
            obtain ⟨y0, m0, d0, g1, g2⟩ := day_of n hd.1 hd.2
            obtain ⟨y1', m1, z1, g3, g4⟩ := day_of a (h1.good rfl).2.1.1.1 (h1.good rfl).2.1.1.2
            obtain ⟨y2', m2, z2, g5, g6⟩ := day_of b (h2.good rfl).2.1.1.1 (h2.good rfl).2.1.1.2
            have s1 := same_iff g1 g2 g3 g4
            have s2 := same_iff g1 g2 g5 g6
            have k1 : DayIs n y0 m0 d0 0 := Or.inl ⟨g1, g2, rfl⟩
            have k2 : DayIs a y1' m1 z1 0 := Or.inl ⟨g3, g4, rfl⟩
            have k3 : DayIs b y2' m2 z2 0 := Or.inl ⟨g5, g6, rfl⟩
            by_cases so : sameM n a <;> by_cases sb : sameM n b
            · obtain rfl := x1 so
              obtain rfl := y1 sb
              exact romonth_tt c aR cR aD cD n _ _ y0 m0 d0 y1' m1 z1 y2' m2 z2 w hL hC (decide_eq_true hf) hf.small hm (decide_eq_true hd) hd bn h1 h2 t3 t4 t5 t6 k1 k2 k3 (by simpa using s1.1 so) (by simpa using s2.1 sb)
            · obtain rfl := x1 so
              obtain rfl := y2 sb
              exact romonth_tf c aR cR aD cD n _ _ y0 m0 d0 y1' m1 z1 y2' m2 z2 w hL hC (decide_eq_true hf) hf.small hm (decide_eq_true hd) hd bn h1 h2 t3 t4 t5 t6 k1 k2 k3 (by simpa using s1.1 so) (by rw [Bool.eq_false_iff]; intro g; exact sb (s2.2 (by simpa using g)))
            · obtain rfl := x2 so
              obtain rfl := y1 sb
              exact romonth_ft c aR cR aD cD n _ _ y0 m0 d0 y1' m1 z1 y2' m2 z2 w hL hC (decide_eq_true hf) hf.small hm (decide_eq_true hd) hd bn h1 h2 t3 t4 t5 t6 k1 k2 k3 (by rw [Bool.eq_false_iff]; intro g; exact so (s1.2 (by simpa using g))) (by simpa using s2.1 sb)
            · obtain rfl := x2 so
              obtain rfl := y2 sb
              exact romonth_ff c aR cR aD cD n _ _ y0 m0 d0 y1' m1 z1 y2' m2 z2 w hL hC (decide_eq_true hf) hf.small hm (decide_eq_true hd) hd bn h1 h2 t3 t4 t5 t6 k1 k2 k3 (by rw [Bool.eq_false_iff]; intro g; exact so (s1.2 (by simpa using g))) (by rw [Bool.eq_false_iff]; intro g; exact sb (s2.2 (by simpa using g)))
          · obtain rfl := h4.code h2 hg
            exact romonth_01 c aR cR aD cD n a b x y _ i w hL hC (decide_eq_true hf) hf.small hm (decide_eq_true hd) hd bn h1 h2 t3 t4 t5 t6 (by simpa using hg)
        · obtain rfl := h3.code h1 he
          by_cases hg : f = 0
          · subst hg
            exact romonth_10 c aR cR aD cD n a b x y _ j w hL hC (decide_eq_true hf) hf.small hm (decide_eq_true hd) hd bn h1 h2 t3 t4 t5 t6 (by simpa using he)
          · obtain rfl := h4.code h2 hg
            exact romonth_11 c aR cR aD cD n a b x y _ _ w hL hC (decide_eq_true hf) hf.small hm (decide_eq_true hd) hd bn h1 h2 t3 t4 t5 t6 (by simpa using he) (by simpa using hg)
      · exact romonth_noday c aR cR aD cD n w hL hC (decide_eq_true hf) hf.small hm (decide_eq_false hd)
    · exact romonth_no c aR cR aD cD n w hL hC (decide_eq_true hf) hf.small hm
  · exact romonth_many c aR cR aD cD n w hL hC (decide_eq_false hf)
end Go.Proofs.YtkbhicdcjfpbaaaDoor
