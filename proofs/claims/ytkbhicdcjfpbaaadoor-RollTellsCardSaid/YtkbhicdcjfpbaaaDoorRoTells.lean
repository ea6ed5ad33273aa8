/- RollTells: the walk. -/
import Derived.Test.YtkbhicdcjfpbaaaDoorRoShown
namespace Go.Proofs.YtkbhicdcjfpbaaaDoor
open Go.RowKit
set_option linter.unusedVariables false
set_option linter.unusedSimpArgs false


set_option maxHeartbeats 8000000 in
set_option maxRecDepth 100000 in
theorem rotells_many (c : Ca) (aR : Option Addr) (cR : Nat) (aD : Option Addr) (cD : Nat) (n k : Int) (s : ByteArray) (w : World) (hL : FactsW w) (hCc : CalAt w c aR cR aD cD)  (hf : decide (c.nr ≤ 12 ∧ c.nd ≤ 60) = false) :
    Calls Tryd.prog 3 #[.agg #[.bool (c.o 0), .bool (c.o 1), .bool (c.o 2), .bool (c.o 3), .bool (c.o 4), .bool (c.o 5), .bool (c.o 6), .slice aR c.nr cR, .slice aD c.nd cD, .int .i64 n, .int .i64 k, .string s]] w fun e w' => e = .returned (.bool true) ∧ Below w.heap.size w w' := by
  have H := ((Held.start w).add (f := factsWF) hL).add (f := calF c aR cR aD cD) hCc
  clear hL hCc
  have HF := Lib.hid hf
  clear hf
  go_enter Tryd.func3, Tryd.ntmps3
  go_wp2_with fail
  replace H := ((H.box_12 (w.heap.size) (.bool (c.o 0)) (.bool (c.o 1)) (.bool (c.o 2)) (.bool (c.o 3)) (.bool (c.o 4)) (.bool (c.o 5)) (.bool (c.o 6)) (.slice aR c.nr cR) (.slice aD c.nd cD) (.int .i64 n) (.int .i64 k) (.string s) 28 rfl).box_9 (w.heap.size + 1) (.bool (c.o 0)) (.bool (c.o 1)) (.bool (c.o 2)) (.bool (c.o 3)) (.bool (c.o 4)) (.bool (c.o 5)) (.bool (c.o 6)) (.slice aR c.nr cR) (.slice aD c.nd cD) 26 (by simp))
  (with_reducible refine (roshown_any _ (H.factsW (mt32 (mt8 (mt1 (mt1 (mt1 mh))))))).mono ?_)
  rintro e w1 ⟨rfl, hb⟩
  replace H := H.below hb
  clear hb
  have cc0 := H.cell (w.heap.size + 1) 0 (.bool (c.o 0)) mh
  have cc1 := H.cell (w.heap.size + 1) 1 (.bool (c.o 1)) (mt1 mh)
  have cc2 := H.cell (w.heap.size + 1) 2 (.bool (c.o 2)) (mt1 (mt1 mh))
  have cc3 := H.cell (w.heap.size + 1) 3 (.bool (c.o 3)) (mt1 (mt1 (mt1 mh)))
  have cc4 := H.cell (w.heap.size + 1) 4 (.bool (c.o 4)) (mt1 (mt1 (mt1 (mt1 mh))))
  have cc5 := H.cell (w.heap.size + 1) 5 (.bool (c.o 5)) (mt1 (mt1 (mt1 (mt1 (mt1 mh)))))
  have cc6 := H.cell (w.heap.size + 1) 6 (.bool (c.o 6)) (mt1 (mt1 (mt1 (mt1 (mt1 (mt1 mh))))))
  have cc7 := H.cell (w.heap.size + 1) 7 (.slice aR c.nr cR) (mt1 (mt1 (mt1 (mt1 (mt1 (mt1 (mt1 mh)))))))
  have cc8 := H.cell (w.heap.size + 1) 8 (.slice aD c.nd cD) (mt8 mh)
  have lc := H.lt (w.heap.size + 1) 0 (.bool (c.o 0)) mh
  go_wp2_with fail
  clear cc0 cc1 cc2 cc3 cc4 cc5 cc6 cc7 cc8 lc
  (with_reducible refine (few_any c aR cR aD cD false _ HF.out).mono ?_)
  rintro e w2 ⟨rfl, hb⟩
  replace H := H.below hb
  clear hb
  go_wp2_with fail
  go_ret
  exact ⟨rfl, H.old⟩

set_option maxHeartbeats 8000000 in
set_option maxRecDepth 100000 in
theorem rotells_no (c : Ca) (aR : Option Addr) (cR : Nat) (aD : Option Addr) (cD : Nat) (n k : Int) (s : ByteArray) (w : World) (hL : FactsW w) (hCc : CalAt w c aR cR aD cD)  (hf : decide (c.nr ≤ 12 ∧ c.nd ≤ 60) = true) (hS : c.Small) (hm : ¬ c.May) :
    Calls Tryd.prog 3 #[.agg #[.bool (c.o 0), .bool (c.o 1), .bool (c.o 2), .bool (c.o 3), .bool (c.o 4), .bool (c.o 5), .bool (c.o 6), .slice aR c.nr cR, .slice aD c.nd cD, .int .i64 n, .int .i64 k, .string s]] w fun e w' => e = .returned (.bool true) ∧ Below w.heap.size w w' := by
  have H := ((Held.start w).add (f := factsWF) hL).add (f := calF c aR cR aD cD) hCc
  clear hL hCc
  have HF := Lib.hid hf
  have HZ := Lib.hid hS
  have NM := Lib.hid hm
  clear hf hS hm
  go_enter Tryd.func3, Tryd.ntmps3
  go_wp2_with fail
  replace H := ((H.box_12 (w.heap.size) (.bool (c.o 0)) (.bool (c.o 1)) (.bool (c.o 2)) (.bool (c.o 3)) (.bool (c.o 4)) (.bool (c.o 5)) (.bool (c.o 6)) (.slice aR c.nr cR) (.slice aD c.nd cD) (.int .i64 n) (.int .i64 k) (.string s) 28 rfl).box_9 (w.heap.size + 1) (.bool (c.o 0)) (.bool (c.o 1)) (.bool (c.o 2)) (.bool (c.o 3)) (.bool (c.o 4)) (.bool (c.o 5)) (.bool (c.o 6)) (.slice aR c.nr cR) (.slice aD c.nd cD) 26 (by simp))
  (with_reducible refine (roshown_any _ (H.factsW (mt32 (mt8 (mt1 (mt1 (mt1 mh))))))).mono ?_)
  rintro e w1 ⟨rfl, hb⟩
  replace H := H.below hb
  clear hb
  have cc0 := H.cell (w.heap.size + 1) 0 (.bool (c.o 0)) mh
  have cc1 := H.cell (w.heap.size + 1) 1 (.bool (c.o 1)) (mt1 mh)
  have cc2 := H.cell (w.heap.size + 1) 2 (.bool (c.o 2)) (mt1 (mt1 mh))
  have cc3 := H.cell (w.heap.size + 1) 3 (.bool (c.o 3)) (mt1 (mt1 (mt1 mh)))
  have cc4 := H.cell (w.heap.size + 1) 4 (.bool (c.o 4)) (mt1 (mt1 (mt1 (mt1 mh))))
  have cc5 := H.cell (w.heap.size + 1) 5 (.bool (c.o 5)) (mt1 (mt1 (mt1 (mt1 (mt1 mh)))))
  have cc6 := H.cell (w.heap.size + 1) 6 (.bool (c.o 6)) (mt1 (mt1 (mt1 (mt1 (mt1 (mt1 mh))))))
  have cc7 := H.cell (w.heap.size + 1) 7 (.slice aR c.nr cR) (mt1 (mt1 (mt1 (mt1 (mt1 (mt1 (mt1 mh)))))))
  have cc8 := H.cell (w.heap.size + 1) 8 (.slice aD c.nd cD) (mt8 mh)
  have lc := H.lt (w.heap.size + 1) 0 (.bool (c.o 0)) mh
  go_wp2_with fail
  clear cc0 cc1 cc2 cc3 cc4 cc5 cc6 cc7 cc8 lc
  (with_reducible refine (few_any c aR cR aD cD true _ HF.out).mono ?_)
  rintro e w2 ⟨rfl, hb⟩
  replace H := H.below hb
  clear hb
  have cc0 := H.cell (w.heap.size + 1) 0 (.bool (c.o 0)) mh
  have cc1 := H.cell (w.heap.size + 1) 1 (.bool (c.o 1)) (mt1 mh)
  have cc2 := H.cell (w.heap.size + 1) 2 (.bool (c.o 2)) (mt1 (mt1 mh))
  have cc3 := H.cell (w.heap.size + 1) 3 (.bool (c.o 3)) (mt1 (mt1 (mt1 mh)))
  have cc4 := H.cell (w.heap.size + 1) 4 (.bool (c.o 4)) (mt1 (mt1 (mt1 (mt1 mh))))
  have cc5 := H.cell (w.heap.size + 1) 5 (.bool (c.o 5)) (mt1 (mt1 (mt1 (mt1 (mt1 mh)))))
  have cc6 := H.cell (w.heap.size + 1) 6 (.bool (c.o 6)) (mt1 (mt1 (mt1 (mt1 (mt1 (mt1 mh))))))
  have cc7 := H.cell (w.heap.size + 1) 7 (.slice aR c.nr cR) (mt1 (mt1 (mt1 (mt1 (mt1 (mt1 (mt1 mh)))))))
  have cc8 := H.cell (w.heap.size + 1) 8 (.slice aD c.nd cD) (mt8 mh)
  have lc := H.lt (w.heap.size + 1) 0 (.bool (c.o 0)) mh
  go_wp2_with fail
  clear cc0 cc1 cc2 cc3 cc4 cc5 cc6 cc7 cc8 lc
  (with_reducible refine (rcmay_any c aR cR aD cD false _ HZ.out (H.cal (mt32 (mt8 (mt1 (mt1 mh))))) ⟨fun g => absurd g (by decide), fun g => absurd g NM.out⟩).mono ?_)
  rintro e w3 ⟨rfl, hb⟩
  replace H := H.below hb
  clear hb
  go_wp2_with fail
  go_ret
  exact ⟨rfl, H.old⟩

set_option maxHeartbeats 8000000 in
set_option maxRecDepth 100000 in
theorem rotells_long (c : Ca) (aR : Option Addr) (cR : Nat) (aD : Option Addr) (cD : Nat) (n k : Int) (s : ByteArray) (w : World) (hL : FactsW w) (hCc : CalAt w c aR cR aD cD) (hf : decide (c.nr ≤ 12 ∧ c.nd ≤ 60) = true) (hS : c.Small) (hM : c.May) (hl : decide ((s.size : Int) > 40) = true) :
    Calls Tryd.prog 3 #[.agg #[.bool (c.o 0), .bool (c.o 1), .bool (c.o 2), .bool (c.o 3), .bool (c.o 4), .bool (c.o 5), .bool (c.o 6), .slice aR c.nr cR, .slice aD c.nd cD, .int .i64 n, .int .i64 k, .string s]] w fun e w' => e = .returned (.bool true) ∧ Below w.heap.size w w' := by
  have H := ((Held.start w).add (f := factsWF) hL).add (f := calF c aR cR aD cD) hCc
  clear hL hCc
  have HF := Lib.hid hf
  have HZ := Lib.hid hS
  have MM := Lib.hid hM
  clear hf hS hM
  go_enter Tryd.func3, Tryd.ntmps3
  go_wp2_with fail
  replace H := ((H.box_12 (w.heap.size) (.bool (c.o 0)) (.bool (c.o 1)) (.bool (c.o 2)) (.bool (c.o 3)) (.bool (c.o 4)) (.bool (c.o 5)) (.bool (c.o 6)) (.slice aR c.nr cR) (.slice aD c.nd cD) (.int .i64 n) (.int .i64 k) (.string s) 28 rfl).box_9 (w.heap.size + 1) (.bool (c.o 0)) (.bool (c.o 1)) (.bool (c.o 2)) (.bool (c.o 3)) (.bool (c.o 4)) (.bool (c.o 5)) (.bool (c.o 6)) (.slice aR c.nr cR) (.slice aD c.nd cD) 26 (by simp))
  (with_reducible refine (roshown_any _ (H.factsW (mt32 (mt8 (mt1 (mt1 (mt1 mh))))))).mono ?_)
  rintro e w1 ⟨rfl, hb⟩
  replace H := H.below hb
  clear hb
  have cc0 := H.cell (w.heap.size + 1) 0 (.bool (c.o 0)) mh
  have cc1 := H.cell (w.heap.size + 1) 1 (.bool (c.o 1)) (mt1 mh)
  have cc2 := H.cell (w.heap.size + 1) 2 (.bool (c.o 2)) (mt1 (mt1 mh))
  have cc3 := H.cell (w.heap.size + 1) 3 (.bool (c.o 3)) (mt1 (mt1 (mt1 mh)))
  have cc4 := H.cell (w.heap.size + 1) 4 (.bool (c.o 4)) (mt1 (mt1 (mt1 (mt1 mh))))
  have cc5 := H.cell (w.heap.size + 1) 5 (.bool (c.o 5)) (mt1 (mt1 (mt1 (mt1 (mt1 mh)))))
  have cc6 := H.cell (w.heap.size + 1) 6 (.bool (c.o 6)) (mt1 (mt1 (mt1 (mt1 (mt1 (mt1 mh))))))
  have cc7 := H.cell (w.heap.size + 1) 7 (.slice aR c.nr cR) (mt1 (mt1 (mt1 (mt1 (mt1 (mt1 (mt1 mh)))))))
  have cc8 := H.cell (w.heap.size + 1) 8 (.slice aD c.nd cD) (mt8 mh)
  have lc := H.lt (w.heap.size + 1) 0 (.bool (c.o 0)) mh
  go_wp2_with fail
  clear cc0 cc1 cc2 cc3 cc4 cc5 cc6 cc7 cc8 lc
  (with_reducible refine (few_any c aR cR aD cD true _ HF.out).mono ?_)
  rintro e w2 ⟨rfl, hb⟩
  replace H := H.below hb
  clear hb
  have cc0 := H.cell (w.heap.size + 1) 0 (.bool (c.o 0)) mh
  have cc1 := H.cell (w.heap.size + 1) 1 (.bool (c.o 1)) (mt1 mh)
  have cc2 := H.cell (w.heap.size + 1) 2 (.bool (c.o 2)) (mt1 (mt1 mh))
  have cc3 := H.cell (w.heap.size + 1) 3 (.bool (c.o 3)) (mt1 (mt1 (mt1 mh)))
  have cc4 := H.cell (w.heap.size + 1) 4 (.bool (c.o 4)) (mt1 (mt1 (mt1 (mt1 mh))))
  have cc5 := H.cell (w.heap.size + 1) 5 (.bool (c.o 5)) (mt1 (mt1 (mt1 (mt1 (mt1 mh)))))
  have cc6 := H.cell (w.heap.size + 1) 6 (.bool (c.o 6)) (mt1 (mt1 (mt1 (mt1 (mt1 (mt1 mh))))))
  have cc7 := H.cell (w.heap.size + 1) 7 (.slice aR c.nr cR) (mt1 (mt1 (mt1 (mt1 (mt1 (mt1 (mt1 mh)))))))
  have cc8 := H.cell (w.heap.size + 1) 8 (.slice aD c.nd cD) (mt8 mh)
  have lc := H.lt (w.heap.size + 1) 0 (.bool (c.o 0)) mh
  go_wp2_with fail
  clear cc0 cc1 cc2 cc3 cc4 cc5 cc6 cc7 cc8 lc
  (with_reducible refine (rcmay_any c aR cR aD cD true _ HZ.out (H.cal (mt32 (mt8 (mt1 (mt1 mh))))) ⟨fun _ => MM.out, fun _ => rfl⟩).mono ?_)
  rintro e w3 ⟨rfl, hb⟩
  replace H := H.below hb
  clear hb
  have cc0 := H.cell (w.heap.size + 1) 0 (.bool (c.o 0)) mh
  have cc1 := H.cell (w.heap.size + 1) 1 (.bool (c.o 1)) (mt1 mh)
  have cc2 := H.cell (w.heap.size + 1) 2 (.bool (c.o 2)) (mt1 (mt1 mh))
  have cc3 := H.cell (w.heap.size + 1) 3 (.bool (c.o 3)) (mt1 (mt1 (mt1 mh)))
  have cc4 := H.cell (w.heap.size + 1) 4 (.bool (c.o 4)) (mt1 (mt1 (mt1 (mt1 mh))))
  have cc5 := H.cell (w.heap.size + 1) 5 (.bool (c.o 5)) (mt1 (mt1 (mt1 (mt1 (mt1 mh)))))
  have cc6 := H.cell (w.heap.size + 1) 6 (.bool (c.o 6)) (mt1 (mt1 (mt1 (mt1 (mt1 (mt1 mh))))))
  have cc7 := H.cell (w.heap.size + 1) 7 (.slice aR c.nr cR) (mt1 (mt1 (mt1 (mt1 (mt1 (mt1 (mt1 mh)))))))
  have cc8 := H.cell (w.heap.size + 1) 8 (.slice aD c.nd cD) (mt8 mh)
  have lc := H.lt (w.heap.size + 1) 0 (.bool (c.o 0)) mh
  go_wp2_with fail
  clear cc0 cc1 cc2 cc3 cc4 cc5 cc6 cc7 cc8 lc
  go_ret
  exact ⟨rfl, H.old⟩

set_option maxHeartbeats 8000000 in
set_option maxRecDepth 100000 in
theorem rotells_in (c : Ca) (aR : Option Addr) (cR : Nat) (aD : Option Addr) (cD : Nat) (n k : Int) (s : ByteArray) (a e p f r i u l : Int) (y : ByteArray) (w : World) (hL : FactsW w) (hCc : CalAt w c aR cR aD cD) (hf : decide (c.nr ≤ 12 ∧ c.nd ≤ 60) = true) (hS : c.Small) (hM : c.May) (hl : decide ((s.size : Int) > 40) = false) (bn : -9223372036854775808 ≤ n ∧ n < 9223372036854775808) (h1 : ToIs c n k a e) (h2 : StepIs c 1 n p f) (h3 : StepIs c (-1) n r i) (h4 : rk s = (u, l)) (h5 : rn k = y) :
    Calls Tryd.prog 3 #[.agg #[.bool (c.o 0), .bool (c.o 1), .bool (c.o 2), .bool (c.o 3), .bool (c.o 4), .bool (c.o 5), .bool (c.o 6), .slice aR c.nr cR, .slice aD c.nd cD, .int .i64 n, .int .i64 k, .string s]] w fun e w' => e = .returned (.bool true) ∧ Below w.heap.size w w' := by
  have H := ((Held.start w).add (f := factsWF) hL).add (f := calF c aR cR aD cD) hCc
  clear hL hCc
  have HF := Lib.hid hf
  have HZ := Lib.hid hS
  have MM := Lib.hid hM
  have H1 := Lib.hid h1
  have H2 := Lib.hid h2
  have H3 := Lib.hid h3
  have H4 := Lib.hid h4
  have H5 := Lib.hid h5
  clear hf hS hM h1 h2 h3 h4 h5
  go_enter Tryd.func3, Tryd.ntmps3
  go_wp2_with fail
  replace H := ((H.box_12 (w.heap.size) (.bool (c.o 0)) (.bool (c.o 1)) (.bool (c.o 2)) (.bool (c.o 3)) (.bool (c.o 4)) (.bool (c.o 5)) (.bool (c.o 6)) (.slice aR c.nr cR) (.slice aD c.nd cD) (.int .i64 n) (.int .i64 k) (.string s) 28 rfl).box_9 (w.heap.size + 1) (.bool (c.o 0)) (.bool (c.o 1)) (.bool (c.o 2)) (.bool (c.o 3)) (.bool (c.o 4)) (.bool (c.o 5)) (.bool (c.o 6)) (.slice aR c.nr cR) (.slice aD c.nd cD) 26 (by simp))
  (with_reducible refine (roshown_any _ (H.factsW (mt32 (mt8 (mt1 (mt1 (mt1 mh))))))).mono ?_)
  rintro e w1 ⟨rfl, hb⟩
  replace H := H.below hb
  clear hb
  have cc0 := H.cell (w.heap.size + 1) 0 (.bool (c.o 0)) mh
  have cc1 := H.cell (w.heap.size + 1) 1 (.bool (c.o 1)) (mt1 mh)
  have cc2 := H.cell (w.heap.size + 1) 2 (.bool (c.o 2)) (mt1 (mt1 mh))
  have cc3 := H.cell (w.heap.size + 1) 3 (.bool (c.o 3)) (mt1 (mt1 (mt1 mh)))
  have cc4 := H.cell (w.heap.size + 1) 4 (.bool (c.o 4)) (mt1 (mt1 (mt1 (mt1 mh))))
  have cc5 := H.cell (w.heap.size + 1) 5 (.bool (c.o 5)) (mt1 (mt1 (mt1 (mt1 (mt1 mh)))))
  have cc6 := H.cell (w.heap.size + 1) 6 (.bool (c.o 6)) (mt1 (mt1 (mt1 (mt1 (mt1 (mt1 mh))))))
  have cc7 := H.cell (w.heap.size + 1) 7 (.slice aR c.nr cR) (mt1 (mt1 (mt1 (mt1 (mt1 (mt1 (mt1 mh)))))))
  have cc8 := H.cell (w.heap.size + 1) 8 (.slice aD c.nd cD) (mt8 mh)
  have lc := H.lt (w.heap.size + 1) 0 (.bool (c.o 0)) mh
  go_wp2_with fail
  clear cc0 cc1 cc2 cc3 cc4 cc5 cc6 cc7 cc8 lc
  (with_reducible refine (few_any c aR cR aD cD true _ HF.out).mono ?_)
  rintro e w2 ⟨rfl, hb⟩
  replace H := H.below hb
  clear hb
  have cc0 := H.cell (w.heap.size + 1) 0 (.bool (c.o 0)) mh
  have cc1 := H.cell (w.heap.size + 1) 1 (.bool (c.o 1)) (mt1 mh)
  have cc2 := H.cell (w.heap.size + 1) 2 (.bool (c.o 2)) (mt1 (mt1 mh))
  have cc3 := H.cell (w.heap.size + 1) 3 (.bool (c.o 3)) (mt1 (mt1 (mt1 mh)))
  have cc4 := H.cell (w.heap.size + 1) 4 (.bool (c.o 4)) (mt1 (mt1 (mt1 (mt1 mh))))
  have cc5 := H.cell (w.heap.size + 1) 5 (.bool (c.o 5)) (mt1 (mt1 (mt1 (mt1 (mt1 mh)))))
  have cc6 := H.cell (w.heap.size + 1) 6 (.bool (c.o 6)) (mt1 (mt1 (mt1 (mt1 (mt1 (mt1 mh))))))
  have cc7 := H.cell (w.heap.size + 1) 7 (.slice aR c.nr cR) (mt1 (mt1 (mt1 (mt1 (mt1 (mt1 (mt1 mh)))))))
  have cc8 := H.cell (w.heap.size + 1) 8 (.slice aD c.nd cD) (mt8 mh)
  have lc := H.lt (w.heap.size + 1) 0 (.bool (c.o 0)) mh
  go_wp2_with fail
  clear cc0 cc1 cc2 cc3 cc4 cc5 cc6 cc7 cc8 lc
  (with_reducible refine (rcmay_any c aR cR aD cD true _ HZ.out (H.cal (mt32 (mt8 (mt1 (mt1 mh))))) ⟨fun _ => MM.out, fun _ => rfl⟩).mono ?_)
  rintro e w3 ⟨rfl, hb⟩
  replace H := H.below hb
  clear hb
  have cc0 := H.cell (w.heap.size + 1) 0 (.bool (c.o 0)) mh
  have cc1 := H.cell (w.heap.size + 1) 1 (.bool (c.o 1)) (mt1 mh)
  have cc2 := H.cell (w.heap.size + 1) 2 (.bool (c.o 2)) (mt1 (mt1 mh))
  have cc3 := H.cell (w.heap.size + 1) 3 (.bool (c.o 3)) (mt1 (mt1 (mt1 mh)))
  have cc4 := H.cell (w.heap.size + 1) 4 (.bool (c.o 4)) (mt1 (mt1 (mt1 (mt1 mh))))
  have cc5 := H.cell (w.heap.size + 1) 5 (.bool (c.o 5)) (mt1 (mt1 (mt1 (mt1 (mt1 mh)))))
  have cc6 := H.cell (w.heap.size + 1) 6 (.bool (c.o 6)) (mt1 (mt1 (mt1 (mt1 (mt1 (mt1 mh))))))
  have cc7 := H.cell (w.heap.size + 1) 7 (.slice aR c.nr cR) (mt1 (mt1 (mt1 (mt1 (mt1 (mt1 (mt1 mh)))))))
  have cc8 := H.cell (w.heap.size + 1) 8 (.slice aD c.nd cD) (mt8 mh)
  have lc := H.lt (w.heap.size + 1) 0 (.bool (c.o 0)) mh
  go_wp2_with fail
  clear cc0 cc1 cc2 cc3 cc4 cc5 cc6 cc7 cc8 lc
  (with_reducible refine (to_is14 c aR cR aD cD n k a e _ (H.factsW (mt32 (mt8 (mt1 (mt1 (mt1 mh)))))) MM.out (H.cal (mt32 (mt8 (mt1 (mt1 mh))))) bn H1.out).mono ?_)
  rintro e w4 ⟨rfl, hb⟩
  replace H := H.below hb
  clear hb
  have cc0 := H.cell (w.heap.size + 1) 0 (.bool (c.o 0)) mh
  have cc1 := H.cell (w.heap.size + 1) 1 (.bool (c.o 1)) (mt1 mh)
  have cc2 := H.cell (w.heap.size + 1) 2 (.bool (c.o 2)) (mt1 (mt1 mh))
  have cc3 := H.cell (w.heap.size + 1) 3 (.bool (c.o 3)) (mt1 (mt1 (mt1 mh)))
  have cc4 := H.cell (w.heap.size + 1) 4 (.bool (c.o 4)) (mt1 (mt1 (mt1 (mt1 mh))))
  have cc5 := H.cell (w.heap.size + 1) 5 (.bool (c.o 5)) (mt1 (mt1 (mt1 (mt1 (mt1 mh)))))
  have cc6 := H.cell (w.heap.size + 1) 6 (.bool (c.o 6)) (mt1 (mt1 (mt1 (mt1 (mt1 (mt1 mh))))))
  have cc7 := H.cell (w.heap.size + 1) 7 (.slice aR c.nr cR) (mt1 (mt1 (mt1 (mt1 (mt1 (mt1 (mt1 mh)))))))
  have cc8 := H.cell (w.heap.size + 1) 8 (.slice aD c.nd cD) (mt8 mh)
  have lc := H.lt (w.heap.size + 1) 0 (.bool (c.o 0)) mh
  go_wp2_with fail
  clear cc0 cc1 cc2 cc3 cc4 cc5 cc6 cc7 cc8 lc
  (with_reducible refine (rto14 c aR cR aD cD n k a e _ HZ.out MM.out.rules (H.cal (mt32 (mt8 (mt1 (mt1 mh))))) H1.out).mono ?_)
  rintro e w5 ⟨rfl, hb⟩
  replace H := H.below hb
  clear hb
  have cc0 := H.cell (w.heap.size + 1) 0 (.bool (c.o 0)) mh
  have cc1 := H.cell (w.heap.size + 1) 1 (.bool (c.o 1)) (mt1 mh)
  have cc2 := H.cell (w.heap.size + 1) 2 (.bool (c.o 2)) (mt1 (mt1 mh))
  have cc3 := H.cell (w.heap.size + 1) 3 (.bool (c.o 3)) (mt1 (mt1 (mt1 mh)))
  have cc4 := H.cell (w.heap.size + 1) 4 (.bool (c.o 4)) (mt1 (mt1 (mt1 (mt1 mh))))
  have cc5 := H.cell (w.heap.size + 1) 5 (.bool (c.o 5)) (mt1 (mt1 (mt1 (mt1 (mt1 mh)))))
  have cc6 := H.cell (w.heap.size + 1) 6 (.bool (c.o 6)) (mt1 (mt1 (mt1 (mt1 (mt1 (mt1 mh))))))
  have cc7 := H.cell (w.heap.size + 1) 7 (.slice aR c.nr cR) (mt1 (mt1 (mt1 (mt1 (mt1 (mt1 (mt1 mh)))))))
  have cc8 := H.cell (w.heap.size + 1) 8 (.slice aD c.nd cD) (mt8 mh)
  have lc := H.lt (w.heap.size + 1) 0 (.bool (c.o 0)) mh
  go_wp2_with fail
  clear cc0 cc1 cc2 cc3 cc4 cc5 cc6 cc7 cc8 lc
  (with_reducible refine (next_is c aR cR aD cD n p f _ (H.factsW (mt32 (mt8 (mt1 (mt1 (mt1 mh)))))) MM.out (H.cal (mt32 (mt8 (mt1 (mt1 mh))))) bn H2.out).mono ?_)
  rintro e w6 ⟨rfl, hb⟩
  replace H := H.below hb
  clear hb
  have cc0 := H.cell (w.heap.size + 1) 0 (.bool (c.o 0)) mh
  have cc1 := H.cell (w.heap.size + 1) 1 (.bool (c.o 1)) (mt1 mh)
  have cc2 := H.cell (w.heap.size + 1) 2 (.bool (c.o 2)) (mt1 (mt1 mh))
  have cc3 := H.cell (w.heap.size + 1) 3 (.bool (c.o 3)) (mt1 (mt1 (mt1 mh)))
  have cc4 := H.cell (w.heap.size + 1) 4 (.bool (c.o 4)) (mt1 (mt1 (mt1 (mt1 mh))))
  have cc5 := H.cell (w.heap.size + 1) 5 (.bool (c.o 5)) (mt1 (mt1 (mt1 (mt1 (mt1 mh)))))
  have cc6 := H.cell (w.heap.size + 1) 6 (.bool (c.o 6)) (mt1 (mt1 (mt1 (mt1 (mt1 (mt1 mh))))))
  have cc7 := H.cell (w.heap.size + 1) 7 (.slice aR c.nr cR) (mt1 (mt1 (mt1 (mt1 (mt1 (mt1 (mt1 mh)))))))
  have cc8 := H.cell (w.heap.size + 1) 8 (.slice aD c.nd cD) (mt8 mh)
  have lc := H.lt (w.heap.size + 1) 0 (.bool (c.o 0)) mh
  go_wp2_with fail
  clear cc0 cc1 cc2 cc3 cc4 cc5 cc6 cc7 cc8 lc
  (with_reducible refine (rnext14 c aR cR aD cD n p f _ HZ.out MM.out.rules (H.cal (mt32 (mt8 (mt1 (mt1 mh))))) H2.out).mono ?_)
  rintro e w7 ⟨rfl, hb⟩
  replace H := H.below hb
  clear hb
  have cc0 := H.cell (w.heap.size + 1) 0 (.bool (c.o 0)) mh
  have cc1 := H.cell (w.heap.size + 1) 1 (.bool (c.o 1)) (mt1 mh)
  have cc2 := H.cell (w.heap.size + 1) 2 (.bool (c.o 2)) (mt1 (mt1 mh))
  have cc3 := H.cell (w.heap.size + 1) 3 (.bool (c.o 3)) (mt1 (mt1 (mt1 mh)))
  have cc4 := H.cell (w.heap.size + 1) 4 (.bool (c.o 4)) (mt1 (mt1 (mt1 (mt1 mh))))
  have cc5 := H.cell (w.heap.size + 1) 5 (.bool (c.o 5)) (mt1 (mt1 (mt1 (mt1 (mt1 mh)))))
  have cc6 := H.cell (w.heap.size + 1) 6 (.bool (c.o 6)) (mt1 (mt1 (mt1 (mt1 (mt1 (mt1 mh))))))
  have cc7 := H.cell (w.heap.size + 1) 7 (.slice aR c.nr cR) (mt1 (mt1 (mt1 (mt1 (mt1 (mt1 (mt1 mh)))))))
  have cc8 := H.cell (w.heap.size + 1) 8 (.slice aD c.nd cD) (mt8 mh)
  have lc := H.lt (w.heap.size + 1) 0 (.bool (c.o 0)) mh
  go_wp2_with fail
  clear cc0 cc1 cc2 cc3 cc4 cc5 cc6 cc7 cc8 lc
  (with_reducible refine (prev_is c aR cR aD cD n r i _ (H.factsW (mt32 (mt8 (mt1 (mt1 (mt1 mh)))))) MM.out (H.cal (mt32 (mt8 (mt1 (mt1 mh))))) bn H3.out).mono ?_)
  rintro e w8 ⟨rfl, hb⟩
  replace H := H.below hb
  clear hb
  have cc0 := H.cell (w.heap.size + 1) 0 (.bool (c.o 0)) mh
  have cc1 := H.cell (w.heap.size + 1) 1 (.bool (c.o 1)) (mt1 mh)
  have cc2 := H.cell (w.heap.size + 1) 2 (.bool (c.o 2)) (mt1 (mt1 mh))
  have cc3 := H.cell (w.heap.size + 1) 3 (.bool (c.o 3)) (mt1 (mt1 (mt1 mh)))
  have cc4 := H.cell (w.heap.size + 1) 4 (.bool (c.o 4)) (mt1 (mt1 (mt1 (mt1 mh))))
  have cc5 := H.cell (w.heap.size + 1) 5 (.bool (c.o 5)) (mt1 (mt1 (mt1 (mt1 (mt1 mh)))))
  have cc6 := H.cell (w.heap.size + 1) 6 (.bool (c.o 6)) (mt1 (mt1 (mt1 (mt1 (mt1 (mt1 mh))))))
  have cc7 := H.cell (w.heap.size + 1) 7 (.slice aR c.nr cR) (mt1 (mt1 (mt1 (mt1 (mt1 (mt1 (mt1 mh)))))))
  have cc8 := H.cell (w.heap.size + 1) 8 (.slice aD c.nd cD) (mt8 mh)
  have lc := H.lt (w.heap.size + 1) 0 (.bool (c.o 0)) mh
  go_wp2_with fail
  clear cc0 cc1 cc2 cc3 cc4 cc5 cc6 cc7 cc8 lc
  (with_reducible refine (rprev14 c aR cR aD cD n r i _ HZ.out MM.out.rules (H.cal (mt32 (mt8 (mt1 (mt1 mh))))) H3.out).mono ?_)
  rintro e w9 ⟨rfl, hb⟩
  replace H := H.below hb
  clear hb
  go_wp2_with fail
  (with_reducible refine (kind14 s u l _ (H.factsW (mt32 (mt8 (mt1 (mt1 (mt1 mh)))))) H4.out).mono ?_)
  rintro e w10 ⟨rfl, hb⟩
  replace H := H.below hb
  clear hb
  go_wp2_with fail
  (with_reducible refine (rkind14 s u l _ H4.out).mono ?_)
  rintro e w11 ⟨rfl, hb⟩
  replace H := H.below hb
  clear hb
  go_wp2_with fail
  (with_reducible refine (name14 k y _ (H.factsW (mt32 (mt8 (mt1 (mt1 (mt1 mh)))))) H5.out).mono ?_)
  rintro e w12 ⟨rfl, hb⟩
  replace H := H.below hb
  clear hb
  go_wp2_with fail
  (with_reducible refine (rname14 k y _ H5.out).mono ?_)
  rintro e w13 ⟨rfl, hb⟩
  replace H := H.below hb
  clear hb
  go_wp2_with fail
  go_ret
  exact ⟨rfl, H.old⟩

theorem rotells_walk (c : Ca) (aR : Option Addr) (cR : Nat) (aD : Option Addr) (cD : Nat) (n k : Int) (s : ByteArray) (w : World) (hL : FactsW w) (hC : CalAt w c aR cR aD cD) (bn : -9223372036854775808 ≤ n ∧ n < 9223372036854775808) :
    Calls Tryd.prog 3 #[.agg #[.bool (c.o 0), .bool (c.o 1), .bool (c.o 2), .bool (c.o 3), .bool (c.o 4), .bool (c.o 5), .bool (c.o 6), .slice aR c.nr cR, .slice aD c.nd cD, .int .i64 n, .int .i64 k, .string s]] w fun e w' => e = .returned (.bool true) ∧ Below w.heap.size w w' := by
  by_cases hf : c.Few
  · by_cases hm : c.May
    · by_cases hl : (s.size : Int) > 40
      · exact rotells_long c aR cR aD cD n k s w hL hC (decide_eq_true hf) hf.small hm (decide_eq_true hl)
      · obtain ⟨a, e, h1⟩ := to_is c n k
        obtain ⟨p, f, h2⟩ := step_is c 1 n
        obtain ⟨r, i, h3⟩ := step_is c (-1) n
        exact rotells_in c aR cR aD cD n k s a e p f r i (rk s).1 (rk s).2 (rn k) w hL hC (decide_eq_true hf) hf.small hm (decide_eq_false hl) bn h1 h2 h3 rfl rfl
    · exact rotells_no c aR cR aD cD n k s w hL hC (decide_eq_true hf) hf.small hm
  · exact rotells_many c aR cR aD cD n k s w hL hC (decide_eq_false hf)
end Go.Proofs.YtkbhicdcjfpbaaaDoor
