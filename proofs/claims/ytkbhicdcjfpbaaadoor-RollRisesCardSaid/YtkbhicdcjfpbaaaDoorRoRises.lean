/- RollRises: the walk. -/
import Derived.Test.YtkbhicdcjfpbaaaDoorRoShown
namespace Go.Proofs.YtkbhicdcjfpbaaaDoor
open Go.RowKit
set_option linter.unusedVariables false
set_option linter.unusedSimpArgs false


theorem to_bd {c : Ca} {n k v e : Int} (h : ToIs c n k v e) (hd : 1 ≤ n ∧ n ≤ 3652059) : -9223372036854775808 ≤ v ∧ v < 9223372036854775808 := by
  obtain ⟨a, ea, ha⟩ := step_is c 1 n
  obtain ⟨b, eb, hb⟩ := step_is c (-1) n
  by_cases he : e = 0
  · rcases h.one he ha hb with ⟨_, g⟩ | ⟨g, e0⟩ | ⟨g, e0⟩
    · omega
    · have := (ha.good e0).2.1.1; omega
    · have := (hb.good e0).2.1.1; omega
  · have := h.zero he; omega

set_option maxHeartbeats 8000000 in
set_option maxRecDepth 100000 in
theorem rorises_many (c : Ca) (aR : Option Addr) (cR : Nat) (aD : Option Addr) (cD : Nat) (n z k : Int) (w : World) (hL : FactsW w) (hCc : CalAt w c aR cR aD cD) (bz : 0 ≤ z ∧ z < 256) (bk : 0 ≤ k ∧ k < 256) (bn : -9223372036854775808 ≤ n ∧ n < 9223372036854775808) (hf : decide (c.nr ≤ 12 ∧ c.nd ≤ 60) = false) :
    Calls Tryd.prog 6 #[.agg #[.bool (c.o 0), .bool (c.o 1), .bool (c.o 2), .bool (c.o 3), .bool (c.o 4), .bool (c.o 5), .bool (c.o 6), .slice aR c.nr cR, .slice aD c.nd cD, .int .i64 n, .int .u8 z, .int .u8 k]] w fun e w' => e = .returned (.bool true) ∧ Below w.heap.size w w' := by
  have H := ((Held.start w).add (f := factsWF) hL).add (f := calF c aR cR aD cD) hCc
  clear hL hCc
  have HF := Lib.hid hf
  clear hf
  go_enter Tryd.func6, Tryd.ntmps6
  go_wp2_with fail
  replace H := ((H.box_12 (w.heap.size) (.bool (c.o 0)) (.bool (c.o 1)) (.bool (c.o 2)) (.bool (c.o 3)) (.bool (c.o 4)) (.bool (c.o 5)) (.bool (c.o 6)) (.slice aR c.nr cR) (.slice aD c.nd cD) (.int .i64 n) (.int .u8 z) (.int .u8 k) 50 rfl).box_9 (w.heap.size + 1) (.bool (c.o 0)) (.bool (c.o 1)) (.bool (c.o 2)) (.bool (c.o 3)) (.bool (c.o 4)) (.bool (c.o 5)) (.bool (c.o 6)) (.slice aR c.nr cR) (.slice aD c.nd cD) 26 (by simp))
  (with_reducible refine (roshown_any _ (H.factsW (mt32 (mt8 (mt1 (mt1 (mt1 mh))))))).mono ?_)
  rintro e w1 ⟨rfl, hb⟩
  replace H := H.below hb
  clear hb
  have cc0 := H.cell (w.heap.size + 1) 0 (.bool (c.o 0)) mh
  have cc1 := H.cell (w.heap.size + 1) 1 (.bool (c.o 1)) (mt1 mh)
  have cc2 := H.cell (w.heap.size + 1) 2 (.bool (c.o 2)) (mt1 (mt1 mh))
  have cc3 := H.cell (w.heap.size + 1) 3 (.bool (c.o 3)) (mt1 (mt1 (mt1 mh)))
  have cc4 := H.cell (w.heap.size + 1) 4 (.bool (c.o 4)) (mt1 (mt1 (mt1 (mt1 mh))))
  have cc5 := H.cell (w.heap.size + 1) 5 (.bool (c.o 5)) (mt1 (mt1 (mt1 (mt1 (mt1 mh)))))
  have cc6 := H.cell (w.heap.size + 1) 6 (.bool (c.o 6)) (mt1 (mt1 (mt1 (mt1 (mt1 (mt1 mh))))))
  have cc7 := H.cell (w.heap.size + 1) 7 (.slice aR c.nr cR) (mt1 (mt1 (mt1 (mt1 (mt1 (mt1 (mt1 mh)))))))
  have cc8 := H.cell (w.heap.size + 1) 8 (.slice aD c.nd cD) (mt8 mh)
  have lc := H.lt (w.heap.size + 1) 0 (.bool (c.o 0)) mh
  go_wp2_with fail
  clear cc0 cc1 cc2 cc3 cc4 cc5 cc6 cc7 cc8 lc
  (with_reducible refine (few_any c aR cR aD cD false _ HF.out).mono ?_)
  rintro e w2 ⟨rfl, hb⟩
  replace H := H.below hb
  clear hb
  go_wp2_with fail
  go_ret
  exact ⟨rfl, H.old⟩

set_option maxHeartbeats 8000000 in
set_option maxRecDepth 100000 in
theorem rorises_no (c : Ca) (aR : Option Addr) (cR : Nat) (aD : Option Addr) (cD : Nat) (n z k : Int) (w : World) (hL : FactsW w) (hCc : CalAt w c aR cR aD cD) (bz : 0 ≤ z ∧ z < 256) (bk : 0 ≤ k ∧ k < 256) (bn : -9223372036854775808 ≤ n ∧ n < 9223372036854775808) (hf : decide (c.nr ≤ 12 ∧ c.nd ≤ 60) = true) (hS : c.Small) (hm : ¬ c.May) :
    Calls Tryd.prog 6 #[.agg #[.bool (c.o 0), .bool (c.o 1), .bool (c.o 2), .bool (c.o 3), .bool (c.o 4), .bool (c.o 5), .bool (c.o 6), .slice aR c.nr cR, .slice aD c.nd cD, .int .i64 n, .int .u8 z, .int .u8 k]] w fun e w' => e = .returned (.bool true) ∧ Below w.heap.size w w' := by
  have H := ((Held.start w).add (f := factsWF) hL).add (f := calF c aR cR aD cD) hCc
  clear hL hCc
  have HF := Lib.hid hf
  have HZ := Lib.hid hS
  have NM := Lib.hid hm
  clear hf hS hm
  go_enter Tryd.func6, Tryd.ntmps6
  go_wp2_with fail
  replace H := ((H.box_12 (w.heap.size) (.bool (c.o 0)) (.bool (c.o 1)) (.bool (c.o 2)) (.bool (c.o 3)) (.bool (c.o 4)) (.bool (c.o 5)) (.bool (c.o 6)) (.slice aR c.nr cR) (.slice aD c.nd cD) (.int .i64 n) (.int .u8 z) (.int .u8 k) 50 rfl).box_9 (w.heap.size + 1) (.bool (c.o 0)) (.bool (c.o 1)) (.bool (c.o 2)) (.bool (c.o 3)) (.bool (c.o 4)) (.bool (c.o 5)) (.bool (c.o 6)) (.slice aR c.nr cR) (.slice aD c.nd cD) 26 (by simp))
  (with_reducible refine (roshown_any _ (H.factsW (mt32 (mt8 (mt1 (mt1 (mt1 mh))))))).mono ?_)
  rintro e w1 ⟨rfl, hb⟩
  replace H := H.below hb
  clear hb
  have cc0 := H.cell (w.heap.size + 1) 0 (.bool (c.o 0)) mh
  have cc1 := H.cell (w.heap.size + 1) 1 (.bool (c.o 1)) (mt1 mh)
  have cc2 := H.cell (w.heap.size + 1) 2 (.bool (c.o 2)) (mt1 (mt1 mh))
  have cc3 := H.cell (w.heap.size + 1) 3 (.bool (c.o 3)) (mt1 (mt1 (mt1 mh)))
  have cc4 := H.cell (w.heap.size + 1) 4 (.bool (c.o 4)) (mt1 (mt1 (mt1 (mt1 mh))))
  have cc5 := H.cell (w.heap.size + 1) 5 (.bool (c.o 5)) (mt1 (mt1 (mt1 (mt1 (mt1 mh)))))
  have cc6 := H.cell (w.heap.size + 1) 6 (.bool (c.o 6)) (mt1 (mt1 (mt1 (mt1 (mt1 (mt1 mh))))))
  have cc7 := H.cell (w.heap.size + 1) 7 (.slice aR c.nr cR) (mt1 (mt1 (mt1 (mt1 (mt1 (mt1 (mt1 mh)))))))
  have cc8 := H.cell (w.heap.size + 1) 8 (.slice aD c.nd cD) (mt8 mh)
  have lc := H.lt (w.heap.size + 1) 0 (.bool (c.o 0)) mh
  go_wp2_with fail
  clear cc0 cc1 cc2 cc3 cc4 cc5 cc6 cc7 cc8 lc
  (with_reducible refine (few_any c aR cR aD cD true _ HF.out).mono ?_)
  rintro e w2 ⟨rfl, hb⟩
  replace H := H.below hb
  clear hb
  have cc0 := H.cell (w.heap.size + 1) 0 (.bool (c.o 0)) mh
  have cc1 := H.cell (w.heap.size + 1) 1 (.bool (c.o 1)) (mt1 mh)
  have cc2 := H.cell (w.heap.size + 1) 2 (.bool (c.o 2)) (mt1 (mt1 mh))
  have cc3 := H.cell (w.heap.size + 1) 3 (.bool (c.o 3)) (mt1 (mt1 (mt1 mh)))
  have cc4 := H.cell (w.heap.size + 1) 4 (.bool (c.o 4)) (mt1 (mt1 (mt1 (mt1 mh))))
  have cc5 := H.cell (w.heap.size + 1) 5 (.bool (c.o 5)) (mt1 (mt1 (mt1 (mt1 (mt1 mh)))))
  have cc6 := H.cell (w.heap.size + 1) 6 (.bool (c.o 6)) (mt1 (mt1 (mt1 (mt1 (mt1 (mt1 mh))))))
  have cc7 := H.cell (w.heap.size + 1) 7 (.slice aR c.nr cR) (mt1 (mt1 (mt1 (mt1 (mt1 (mt1 (mt1 mh)))))))
  have cc8 := H.cell (w.heap.size + 1) 8 (.slice aD c.nd cD) (mt8 mh)
  have lc := H.lt (w.heap.size + 1) 0 (.bool (c.o 0)) mh
  go_wp2_with fail
  clear cc0 cc1 cc2 cc3 cc4 cc5 cc6 cc7 cc8 lc
  (with_reducible refine (rcmay_any c aR cR aD cD false _ HZ.out (H.cal (mt32 (mt8 (mt1 (mt1 mh))))) ⟨fun g => absurd g (by decide), fun g => absurd g NM.out⟩).mono ?_)
  rintro e w3 ⟨rfl, hb⟩
  replace H := H.below hb
  clear hb
  go_wp2_with fail
  go_ret
  exact ⟨rfl, H.old⟩

set_option maxHeartbeats 8000000 in
set_option maxRecDepth 100000 in
theorem rorises_noday (c : Ca) (aR : Option Addr) (cR : Nat) (aD : Option Addr) (cD : Nat) (n z k : Int) (w : World) (hL : FactsW w) (hCc : CalAt w c aR cR aD cD) (bz : 0 ≤ z ∧ z < 256) (bk : 0 ≤ k ∧ k < 256) (bn : -9223372036854775808 ≤ n ∧ n < 9223372036854775808) (hf : decide (c.nr ≤ 12 ∧ c.nd ≤ 60) = true) (hS : c.Small) (hM : c.May) (hd : decide (1 ≤ n ∧ n ≤ 3652059) = false) :
    Calls Tryd.prog 6 #[.agg #[.bool (c.o 0), .bool (c.o 1), .bool (c.o 2), .bool (c.o 3), .bool (c.o 4), .bool (c.o 5), .bool (c.o 6), .slice aR c.nr cR, .slice aD c.nd cD, .int .i64 n, .int .u8 z, .int .u8 k]] w fun e w' => e = .returned (.bool true) ∧ Below w.heap.size w w' := by
  have H := ((Held.start w).add (f := factsWF) hL).add (f := calF c aR cR aD cD) hCc
  clear hL hCc
  have HF := Lib.hid hf
  have HZ := Lib.hid hS
  have MM := Lib.hid hM
  have HD := Lib.hid hd
  clear hf hS hM hd
  go_enter Tryd.func6, Tryd.ntmps6
  go_wp2_with fail
  replace H := ((H.box_12 (w.heap.size) (.bool (c.o 0)) (.bool (c.o 1)) (.bool (c.o 2)) (.bool (c.o 3)) (.bool (c.o 4)) (.bool (c.o 5)) (.bool (c.o 6)) (.slice aR c.nr cR) (.slice aD c.nd cD) (.int .i64 n) (.int .u8 z) (.int .u8 k) 50 rfl).box_9 (w.heap.size + 1) (.bool (c.o 0)) (.bool (c.o 1)) (.bool (c.o 2)) (.bool (c.o 3)) (.bool (c.o 4)) (.bool (c.o 5)) (.bool (c.o 6)) (.slice aR c.nr cR) (.slice aD c.nd cD) 26 (by simp))
  (with_reducible refine (roshown_any _ (H.factsW (mt32 (mt8 (mt1 (mt1 (mt1 mh))))))).mono ?_)
  rintro e w1 ⟨rfl, hb⟩
  replace H := H.below hb
  clear hb
  have cc0 := H.cell (w.heap.size + 1) 0 (.bool (c.o 0)) mh
  have cc1 := H.cell (w.heap.size + 1) 1 (.bool (c.o 1)) (mt1 mh)
  have cc2 := H.cell (w.heap.size + 1) 2 (.bool (c.o 2)) (mt1 (mt1 mh))
  have cc3 := H.cell (w.heap.size + 1) 3 (.bool (c.o 3)) (mt1 (mt1 (mt1 mh)))
  have cc4 := H.cell (w.heap.size + 1) 4 (.bool (c.o 4)) (mt1 (mt1 (mt1 (mt1 mh))))
  have cc5 := H.cell (w.heap.size + 1) 5 (.bool (c.o 5)) (mt1 (mt1 (mt1 (mt1 (mt1 mh)))))
  have cc6 := H.cell (w.heap.size + 1) 6 (.bool (c.o 6)) (mt1 (mt1 (mt1 (mt1 (mt1 (mt1 mh))))))
  have cc7 := H.cell (w.heap.size + 1) 7 (.slice aR c.nr cR) (mt1 (mt1 (mt1 (mt1 (mt1 (mt1 (mt1 mh)))))))
  have cc8 := H.cell (w.heap.size + 1) 8 (.slice aD c.nd cD) (mt8 mh)
  have lc := H.lt (w.heap.size + 1) 0 (.bool (c.o 0)) mh
  go_wp2_with fail
  clear cc0 cc1 cc2 cc3 cc4 cc5 cc6 cc7 cc8 lc
  (with_reducible refine (few_any c aR cR aD cD true _ HF.out).mono ?_)
  rintro e w2 ⟨rfl, hb⟩
  replace H := H.below hb
  clear hb
  have cc0 := H.cell (w.heap.size + 1) 0 (.bool (c.o 0)) mh
  have cc1 := H.cell (w.heap.size + 1) 1 (.bool (c.o 1)) (mt1 mh)
  have cc2 := H.cell (w.heap.size + 1) 2 (.bool (c.o 2)) (mt1 (mt1 mh))
  have cc3 := H.cell (w.heap.size + 1) 3 (.bool (c.o 3)) (mt1 (mt1 (mt1 mh)))
  have cc4 := H.cell (w.heap.size + 1) 4 (.bool (c.o 4)) (mt1 (mt1 (mt1 (mt1 mh))))
  have cc5 := H.cell (w.heap.size + 1) 5 (.bool (c.o 5)) (mt1 (mt1 (mt1 (mt1 (mt1 mh)))))
  have cc6 := H.cell (w.heap.size + 1) 6 (.bool (c.o 6)) (mt1 (mt1 (mt1 (mt1 (mt1 (mt1 mh))))))
  have cc7 := H.cell (w.heap.size + 1) 7 (.slice aR c.nr cR) (mt1 (mt1 (mt1 (mt1 (mt1 (mt1 (mt1 mh)))))))
  have cc8 := H.cell (w.heap.size + 1) 8 (.slice aD c.nd cD) (mt8 mh)
  have lc := H.lt (w.heap.size + 1) 0 (.bool (c.o 0)) mh
  go_wp2_with fail
  clear cc0 cc1 cc2 cc3 cc4 cc5 cc6 cc7 cc8 lc
  (with_reducible refine (rcmay_any c aR cR aD cD true _ HZ.out (H.cal (mt32 (mt8 (mt1 (mt1 mh))))) ⟨fun _ => MM.out, fun _ => rfl⟩).mono ?_)
  rintro e w3 ⟨rfl, hb⟩
  replace H := H.below hb
  clear hb
  have cc0 := H.cell (w.heap.size + 1) 0 (.bool (c.o 0)) mh
  have cc1 := H.cell (w.heap.size + 1) 1 (.bool (c.o 1)) (mt1 mh)
  have cc2 := H.cell (w.heap.size + 1) 2 (.bool (c.o 2)) (mt1 (mt1 mh))
  have cc3 := H.cell (w.heap.size + 1) 3 (.bool (c.o 3)) (mt1 (mt1 (mt1 mh)))
  have cc4 := H.cell (w.heap.size + 1) 4 (.bool (c.o 4)) (mt1 (mt1 (mt1 (mt1 mh))))
  have cc5 := H.cell (w.heap.size + 1) 5 (.bool (c.o 5)) (mt1 (mt1 (mt1 (mt1 (mt1 mh)))))
  have cc6 := H.cell (w.heap.size + 1) 6 (.bool (c.o 6)) (mt1 (mt1 (mt1 (mt1 (mt1 (mt1 mh))))))
  have cc7 := H.cell (w.heap.size + 1) 7 (.slice aR c.nr cR) (mt1 (mt1 (mt1 (mt1 (mt1 (mt1 (mt1 mh)))))))
  have cc8 := H.cell (w.heap.size + 1) 8 (.slice aD c.nd cD) (mt8 mh)
  have lc := H.lt (w.heap.size + 1) 0 (.bool (c.o 0)) mh
  go_wp2_with fail
  clear cc0 cc1 cc2 cc3 cc4 cc5 cc6 cc7 cc8 lc
  (with_reducible refine (Calls.same (rday13_is n false _ HD.out)).mono ?_)
  rintro e w4 ⟨rfl, hb⟩
  replace H := H.below hb
  clear hb
  go_wp2_with fail
  go_ret
  exact ⟨rfl, H.old⟩

set_option maxHeartbeats 8000000 in
set_option maxRecDepth 100000 in
theorem rorises_far (c : Ca) (aR : Option Addr) (cR : Nat) (aD : Option Addr) (cD : Nat) (n z k : Int) (w : World) (hL : FactsW w) (hCc : CalAt w c aR cR aD cD) (bz : 0 ≤ z ∧ z < 256) (bk : 0 ≤ k ∧ k < 256) (hf : decide (c.nr ≤ 12 ∧ c.nd ≤ 60) = true) (hS : c.Small) (hM : c.May) (hd : decide (1 ≤ n ∧ n ≤ 3652059) = true) (nb : 1 ≤ n ∧ n ≤ 3652059) (hr : 3652059 < n + z) :
    Calls Tryd.prog 6 #[.agg #[.bool (c.o 0), .bool (c.o 1), .bool (c.o 2), .bool (c.o 3), .bool (c.o 4), .bool (c.o 5), .bool (c.o 6), .slice aR c.nr cR, .slice aD c.nd cD, .int .i64 n, .int .u8 z, .int .u8 k]] w fun e w' => e = .returned (.bool true) ∧ Below w.heap.size w w' := by
  have H := ((Held.start w).add (f := factsWF) hL).add (f := calF c aR cR aD cD) hCc
  clear hL hCc
  have t0 : decide (n + z > 3652059) = true := decide_eq_true hr
  have HF := Lib.hid hf
  have HZ := Lib.hid hS
  have MM := Lib.hid hM
  have HD := Lib.hid hd
  clear hf hS hM hd
  go_enter Tryd.func6, Tryd.ntmps6
  go_wp2_with fail
  replace H := ((H.box_12 (w.heap.size) (.bool (c.o 0)) (.bool (c.o 1)) (.bool (c.o 2)) (.bool (c.o 3)) (.bool (c.o 4)) (.bool (c.o 5)) (.bool (c.o 6)) (.slice aR c.nr cR) (.slice aD c.nd cD) (.int .i64 n) (.int .u8 z) (.int .u8 k) 50 rfl).box_9 (w.heap.size + 1) (.bool (c.o 0)) (.bool (c.o 1)) (.bool (c.o 2)) (.bool (c.o 3)) (.bool (c.o 4)) (.bool (c.o 5)) (.bool (c.o 6)) (.slice aR c.nr cR) (.slice aD c.nd cD) 26 (by simp))
  (with_reducible refine (roshown_any _ (H.factsW (mt32 (mt8 (mt1 (mt1 (mt1 mh))))))).mono ?_)
  rintro e w1 ⟨rfl, hb⟩
  replace H := H.below hb
  clear hb
  have cc0 := H.cell (w.heap.size + 1) 0 (.bool (c.o 0)) mh
  have cc1 := H.cell (w.heap.size + 1) 1 (.bool (c.o 1)) (mt1 mh)
  have cc2 := H.cell (w.heap.size + 1) 2 (.bool (c.o 2)) (mt1 (mt1 mh))
  have cc3 := H.cell (w.heap.size + 1) 3 (.bool (c.o 3)) (mt1 (mt1 (mt1 mh)))
  have cc4 := H.cell (w.heap.size + 1) 4 (.bool (c.o 4)) (mt1 (mt1 (mt1 (mt1 mh))))
  have cc5 := H.cell (w.heap.size + 1) 5 (.bool (c.o 5)) (mt1 (mt1 (mt1 (mt1 (mt1 mh)))))
  have cc6 := H.cell (w.heap.size + 1) 6 (.bool (c.o 6)) (mt1 (mt1 (mt1 (mt1 (mt1 (mt1 mh))))))
  have cc7 := H.cell (w.heap.size + 1) 7 (.slice aR c.nr cR) (mt1 (mt1 (mt1 (mt1 (mt1 (mt1 (mt1 mh)))))))
  have cc8 := H.cell (w.heap.size + 1) 8 (.slice aD c.nd cD) (mt8 mh)
  have lc := H.lt (w.heap.size + 1) 0 (.bool (c.o 0)) mh
  go_wp2_with fail
  clear cc0 cc1 cc2 cc3 cc4 cc5 cc6 cc7 cc8 lc
  (with_reducible refine (few_any c aR cR aD cD true _ HF.out).mono ?_)
  rintro e w2 ⟨rfl, hb⟩
  replace H := H.below hb
  clear hb
  have cc0 := H.cell (w.heap.size + 1) 0 (.bool (c.o 0)) mh
  have cc1 := H.cell (w.heap.size + 1) 1 (.bool (c.o 1)) (mt1 mh)
  have cc2 := H.cell (w.heap.size + 1) 2 (.bool (c.o 2)) (mt1 (mt1 mh))
  have cc3 := H.cell (w.heap.size + 1) 3 (.bool (c.o 3)) (mt1 (mt1 (mt1 mh)))
  have cc4 := H.cell (w.heap.size + 1) 4 (.bool (c.o 4)) (mt1 (mt1 (mt1 (mt1 mh))))
  have cc5 := H.cell (w.heap.size + 1) 5 (.bool (c.o 5)) (mt1 (mt1 (mt1 (mt1 (mt1 mh)))))
  have cc6 := H.cell (w.heap.size + 1) 6 (.bool (c.o 6)) (mt1 (mt1 (mt1 (mt1 (mt1 (mt1 mh))))))
  have cc7 := H.cell (w.heap.size + 1) 7 (.slice aR c.nr cR) (mt1 (mt1 (mt1 (mt1 (mt1 (mt1 (mt1 mh)))))))
  have cc8 := H.cell (w.heap.size + 1) 8 (.slice aD c.nd cD) (mt8 mh)
  have lc := H.lt (w.heap.size + 1) 0 (.bool (c.o 0)) mh
  go_wp2_with fail
  clear cc0 cc1 cc2 cc3 cc4 cc5 cc6 cc7 cc8 lc
  (with_reducible refine (rcmay_any c aR cR aD cD true _ HZ.out (H.cal (mt32 (mt8 (mt1 (mt1 mh))))) ⟨fun _ => MM.out, fun _ => rfl⟩).mono ?_)
  rintro e w3 ⟨rfl, hb⟩
  replace H := H.below hb
  clear hb
  have cc0 := H.cell (w.heap.size + 1) 0 (.bool (c.o 0)) mh
  have cc1 := H.cell (w.heap.size + 1) 1 (.bool (c.o 1)) (mt1 mh)
  have cc2 := H.cell (w.heap.size + 1) 2 (.bool (c.o 2)) (mt1 (mt1 mh))
  have cc3 := H.cell (w.heap.size + 1) 3 (.bool (c.o 3)) (mt1 (mt1 (mt1 mh)))
  have cc4 := H.cell (w.heap.size + 1) 4 (.bool (c.o 4)) (mt1 (mt1 (mt1 (mt1 mh))))
  have cc5 := H.cell (w.heap.size + 1) 5 (.bool (c.o 5)) (mt1 (mt1 (mt1 (mt1 (mt1 mh)))))
  have cc6 := H.cell (w.heap.size + 1) 6 (.bool (c.o 6)) (mt1 (mt1 (mt1 (mt1 (mt1 (mt1 mh))))))
  have cc7 := H.cell (w.heap.size + 1) 7 (.slice aR c.nr cR) (mt1 (mt1 (mt1 (mt1 (mt1 (mt1 (mt1 mh)))))))
  have cc8 := H.cell (w.heap.size + 1) 8 (.slice aD c.nd cD) (mt8 mh)
  have lc := H.lt (w.heap.size + 1) 0 (.bool (c.o 0)) mh
  go_wp2_with fail
  clear cc0 cc1 cc2 cc3 cc4 cc5 cc6 cc7 cc8 lc
  (with_reducible refine (Calls.same (rday13_is n true _ HD.out)).mono ?_)
  rintro e w4 ⟨rfl, hb⟩
  replace H := H.below hb
  clear hb
  go_wp2_with fail
  go_ret
  exact ⟨rfl, H.old⟩

set_option maxHeartbeats 8000000 in
set_option maxRecDepth 100000 in
theorem rorises_AAt (c : Ca) (aR : Option Addr) (cR : Nat) (aD : Option Addr) (cD : Nat) (n z k a b p q x e f g h : Int) (w : World) (hL : FactsW w) (hCc : CalAt w c aR cR aD cD) (bz : 0 ≤ z ∧ z < 256) (bk : 0 ≤ k ∧ k < 256) (hf : decide (c.nr ≤ 12 ∧ c.nd ≤ 60) = true) (hS : c.Small) (hM : c.May) (hd : decide (1 ≤ n ∧ n ≤ 3652059) = true) (nb : 1 ≤ n ∧ n ≤ 3652059) (hr : n + z ≤ 3652059) (h1 : StepIs c 1 n a e) (h2 : StepIs c 1 (n + z) b f) (h3 : StepIs c (-1) n p g) (h4 : StepIs c (-1) (n + z) q h) (h5 : ToIs c n (k % 5) x 0) (ke : (e == 0) = false) (kg : (g == 0) = false) (h6 : ToIs c x (k % 5) x 0) (bx : -9223372036854775808 ≤ x ∧ x < 9223372036854775808) :
    Calls Tryd.prog 6 #[.agg #[.bool (c.o 0), .bool (c.o 1), .bool (c.o 2), .bool (c.o 3), .bool (c.o 4), .bool (c.o 5), .bool (c.o 6), .slice aR c.nr cR, .slice aD c.nd cD, .int .i64 n, .int .u8 z, .int .u8 k]] w fun e w' => e = .returned (.bool true) ∧ Below w.heap.size w w' := by
  have H := ((Held.start w).add (f := factsWF) hL).add (f := calF c aR cR aD cD) hCc
  clear hL hCc
  have t0 : decide (n + z > 3652059) = false := decide_eq_false (by omega)
  have ze : (e != 0) = true := by simpa using ke
  have zg : (g != 0) = true := by simpa using kg
  have HF := Lib.hid hf
  have HZ := Lib.hid hS
  have MM := Lib.hid hM
  have HD := Lib.hid hd
  have H1 := Lib.hid h1
  have H2 := Lib.hid h2
  have H3 := Lib.hid h3
  have H4 := Lib.hid h4
  have H5 := Lib.hid h5
  have H6 := Lib.hid h6
  clear hf hS hM hd h1 h2 h3 h4 h5 h6
  go_enter Tryd.func6, Tryd.ntmps6
  go_wp2_with fail
  replace H := ((H.box_12 (w.heap.size) (.bool (c.o 0)) (.bool (c.o 1)) (.bool (c.o 2)) (.bool (c.o 3)) (.bool (c.o 4)) (.bool (c.o 5)) (.bool (c.o 6)) (.slice aR c.nr cR) (.slice aD c.nd cD) (.int .i64 n) (.int .u8 z) (.int .u8 k) 50 rfl).box_9 (w.heap.size + 1) (.bool (c.o 0)) (.bool (c.o 1)) (.bool (c.o 2)) (.bool (c.o 3)) (.bool (c.o 4)) (.bool (c.o 5)) (.bool (c.o 6)) (.slice aR c.nr cR) (.slice aD c.nd cD) 26 (by simp))
  (with_reducible refine (roshown_any _ (H.factsW (mt32 (mt8 (mt1 (mt1 (mt1 mh))))))).mono ?_)
  rintro e w1 ⟨rfl, hb⟩
  replace H := H.below hb
  clear hb
  have cc0 := H.cell (w.heap.size + 1) 0 (.bool (c.o 0)) mh
  have cc1 := H.cell (w.heap.size + 1) 1 (.bool (c.o 1)) (mt1 mh)
  have cc2 := H.cell (w.heap.size + 1) 2 (.bool (c.o 2)) (mt1 (mt1 mh))
  have cc3 := H.cell (w.heap.size + 1) 3 (.bool (c.o 3)) (mt1 (mt1 (mt1 mh)))
  have cc4 := H.cell (w.heap.size + 1) 4 (.bool (c.o 4)) (mt1 (mt1 (mt1 (mt1 mh))))
  have cc5 := H.cell (w.heap.size + 1) 5 (.bool (c.o 5)) (mt1 (mt1 (mt1 (mt1 (mt1 mh)))))
  have cc6 := H.cell (w.heap.size + 1) 6 (.bool (c.o 6)) (mt1 (mt1 (mt1 (mt1 (mt1 (mt1 mh))))))
  have cc7 := H.cell (w.heap.size + 1) 7 (.slice aR c.nr cR) (mt1 (mt1 (mt1 (mt1 (mt1 (mt1 (mt1 mh)))))))
  have cc8 := H.cell (w.heap.size + 1) 8 (.slice aD c.nd cD) (mt8 mh)
  have lc := H.lt (w.heap.size + 1) 0 (.bool (c.o 0)) mh
  go_wp2_with fail
  clear cc0 cc1 cc2 cc3 cc4 cc5 cc6 cc7 cc8 lc
  (with_reducible refine (few_any c aR cR aD cD true _ HF.out).mono ?_)
  rintro e w2 ⟨rfl, hb⟩
  replace H := H.below hb
  clear hb
  have cc0 := H.cell (w.heap.size + 1) 0 (.bool (c.o 0)) mh
  have cc1 := H.cell (w.heap.size + 1) 1 (.bool (c.o 1)) (mt1 mh)
  have cc2 := H.cell (w.heap.size + 1) 2 (.bool (c.o 2)) (mt1 (mt1 mh))
  have cc3 := H.cell (w.heap.size + 1) 3 (.bool (c.o 3)) (mt1 (mt1 (mt1 mh)))
  have cc4 := H.cell (w.heap.size + 1) 4 (.bool (c.o 4)) (mt1 (mt1 (mt1 (mt1 mh))))
  have cc5 := H.cell (w.heap.size + 1) 5 (.bool (c.o 5)) (mt1 (mt1 (mt1 (mt1 (mt1 mh)))))
  have cc6 := H.cell (w.heap.size + 1) 6 (.bool (c.o 6)) (mt1 (mt1 (mt1 (mt1 (mt1 (mt1 mh))))))
  have cc7 := H.cell (w.heap.size + 1) 7 (.slice aR c.nr cR) (mt1 (mt1 (mt1 (mt1 (mt1 (mt1 (mt1 mh)))))))
  have cc8 := H.cell (w.heap.size + 1) 8 (.slice aD c.nd cD) (mt8 mh)
  have lc := H.lt (w.heap.size + 1) 0 (.bool (c.o 0)) mh
  go_wp2_with fail
  clear cc0 cc1 cc2 cc3 cc4 cc5 cc6 cc7 cc8 lc
  (with_reducible refine (rcmay_any c aR cR aD cD true _ HZ.out (H.cal (mt32 (mt8 (mt1 (mt1 mh))))) ⟨fun _ => MM.out, fun _ => rfl⟩).mono ?_)
  rintro e w3 ⟨rfl, hb⟩
  replace H := H.below hb
  clear hb
  have cc0 := H.cell (w.heap.size + 1) 0 (.bool (c.o 0)) mh
  have cc1 := H.cell (w.heap.size + 1) 1 (.bool (c.o 1)) (mt1 mh)
  have cc2 := H.cell (w.heap.size + 1) 2 (.bool (c.o 2)) (mt1 (mt1 mh))
  have cc3 := H.cell (w.heap.size + 1) 3 (.bool (c.o 3)) (mt1 (mt1 (mt1 mh)))
  have cc4 := H.cell (w.heap.size + 1) 4 (.bool (c.o 4)) (mt1 (mt1 (mt1 (mt1 mh))))
  have cc5 := H.cell (w.heap.size + 1) 5 (.bool (c.o 5)) (mt1 (mt1 (mt1 (mt1 (mt1 mh)))))
  have cc6 := H.cell (w.heap.size + 1) 6 (.bool (c.o 6)) (mt1 (mt1 (mt1 (mt1 (mt1 (mt1 mh))))))
  have cc7 := H.cell (w.heap.size + 1) 7 (.slice aR c.nr cR) (mt1 (mt1 (mt1 (mt1 (mt1 (mt1 (mt1 mh)))))))
  have cc8 := H.cell (w.heap.size + 1) 8 (.slice aD c.nd cD) (mt8 mh)
  have lc := H.lt (w.heap.size + 1) 0 (.bool (c.o 0)) mh
  go_wp2_with fail
  clear cc0 cc1 cc2 cc3 cc4 cc5 cc6 cc7 cc8 lc
  (with_reducible refine (Calls.same (rday13_is n true _ HD.out)).mono ?_)
  rintro e w4 ⟨rfl, hb⟩
  replace H := H.below hb
  clear hb
  have cc0 := H.cell (w.heap.size + 1) 0 (.bool (c.o 0)) mh
  have cc1 := H.cell (w.heap.size + 1) 1 (.bool (c.o 1)) (mt1 mh)
  have cc2 := H.cell (w.heap.size + 1) 2 (.bool (c.o 2)) (mt1 (mt1 mh))
  have cc3 := H.cell (w.heap.size + 1) 3 (.bool (c.o 3)) (mt1 (mt1 (mt1 mh)))
  have cc4 := H.cell (w.heap.size + 1) 4 (.bool (c.o 4)) (mt1 (mt1 (mt1 (mt1 mh))))
  have cc5 := H.cell (w.heap.size + 1) 5 (.bool (c.o 5)) (mt1 (mt1 (mt1 (mt1 (mt1 mh)))))
  have cc6 := H.cell (w.heap.size + 1) 6 (.bool (c.o 6)) (mt1 (mt1 (mt1 (mt1 (mt1 (mt1 mh))))))
  have cc7 := H.cell (w.heap.size + 1) 7 (.slice aR c.nr cR) (mt1 (mt1 (mt1 (mt1 (mt1 (mt1 (mt1 mh)))))))
  have cc8 := H.cell (w.heap.size + 1) 8 (.slice aD c.nd cD) (mt8 mh)
  have lc := H.lt (w.heap.size + 1) 0 (.bool (c.o 0)) mh
  go_wp2_with fail
  clear cc0 cc1 cc2 cc3 cc4 cc5 cc6 cc7 cc8 lc
  (with_reducible refine (next_is c aR cR aD cD n a e _ (H.factsW (mt32 (mt8 (mt1 (mt1 (mt1 mh)))))) MM.out (H.cal (mt32 (mt8 (mt1 (mt1 mh))))) (by omega) H1.out).mono ?_)
  rintro e w5 ⟨rfl, hb⟩
  replace H := H.below hb
  clear hb
  have cc0 := H.cell (w.heap.size + 1) 0 (.bool (c.o 0)) mh
  have cc1 := H.cell (w.heap.size + 1) 1 (.bool (c.o 1)) (mt1 mh)
  have cc2 := H.cell (w.heap.size + 1) 2 (.bool (c.o 2)) (mt1 (mt1 mh))
  have cc3 := H.cell (w.heap.size + 1) 3 (.bool (c.o 3)) (mt1 (mt1 (mt1 mh)))
  have cc4 := H.cell (w.heap.size + 1) 4 (.bool (c.o 4)) (mt1 (mt1 (mt1 (mt1 mh))))
  have cc5 := H.cell (w.heap.size + 1) 5 (.bool (c.o 5)) (mt1 (mt1 (mt1 (mt1 (mt1 mh)))))
  have cc6 := H.cell (w.heap.size + 1) 6 (.bool (c.o 6)) (mt1 (mt1 (mt1 (mt1 (mt1 (mt1 mh))))))
  have cc7 := H.cell (w.heap.size + 1) 7 (.slice aR c.nr cR) (mt1 (mt1 (mt1 (mt1 (mt1 (mt1 (mt1 mh)))))))
  have cc8 := H.cell (w.heap.size + 1) 8 (.slice aD c.nd cD) (mt8 mh)
  have lc := H.lt (w.heap.size + 1) 0 (.bool (c.o 0)) mh
  go_wp2_with fail
  clear cc0 cc1 cc2 cc3 cc4 cc5 cc6 cc7 cc8 lc
  (with_reducible refine (next_is c aR cR aD cD (n + z) b f _ (H.factsW (mt32 (mt8 (mt1 (mt1 (mt1 mh)))))) MM.out (H.cal (mt32 (mt8 (mt1 (mt1 mh))))) (by omega) H2.out).mono ?_)
  rintro e w6 ⟨rfl, hb⟩
  replace H := H.below hb
  clear hb
  have cc0 := H.cell (w.heap.size + 1) 0 (.bool (c.o 0)) mh
  have cc1 := H.cell (w.heap.size + 1) 1 (.bool (c.o 1)) (mt1 mh)
  have cc2 := H.cell (w.heap.size + 1) 2 (.bool (c.o 2)) (mt1 (mt1 mh))
  have cc3 := H.cell (w.heap.size + 1) 3 (.bool (c.o 3)) (mt1 (mt1 (mt1 mh)))
  have cc4 := H.cell (w.heap.size + 1) 4 (.bool (c.o 4)) (mt1 (mt1 (mt1 (mt1 mh))))
  have cc5 := H.cell (w.heap.size + 1) 5 (.bool (c.o 5)) (mt1 (mt1 (mt1 (mt1 (mt1 mh)))))
  have cc6 := H.cell (w.heap.size + 1) 6 (.bool (c.o 6)) (mt1 (mt1 (mt1 (mt1 (mt1 (mt1 mh))))))
  have cc7 := H.cell (w.heap.size + 1) 7 (.slice aR c.nr cR) (mt1 (mt1 (mt1 (mt1 (mt1 (mt1 (mt1 mh)))))))
  have cc8 := H.cell (w.heap.size + 1) 8 (.slice aD c.nd cD) (mt8 mh)
  have lc := H.lt (w.heap.size + 1) 0 (.bool (c.o 0)) mh
  go_wp2_with fail
  clear cc0 cc1 cc2 cc3 cc4 cc5 cc6 cc7 cc8 lc
  (with_reducible refine (prev_is c aR cR aD cD n p g _ (H.factsW (mt32 (mt8 (mt1 (mt1 (mt1 mh)))))) MM.out (H.cal (mt32 (mt8 (mt1 (mt1 mh))))) (by omega) H3.out).mono ?_)
  rintro e w7 ⟨rfl, hb⟩
  replace H := H.below hb
  clear hb
  have cc0 := H.cell (w.heap.size + 1) 0 (.bool (c.o 0)) mh
  have cc1 := H.cell (w.heap.size + 1) 1 (.bool (c.o 1)) (mt1 mh)
  have cc2 := H.cell (w.heap.size + 1) 2 (.bool (c.o 2)) (mt1 (mt1 mh))
  have cc3 := H.cell (w.heap.size + 1) 3 (.bool (c.o 3)) (mt1 (mt1 (mt1 mh)))
  have cc4 := H.cell (w.heap.size + 1) 4 (.bool (c.o 4)) (mt1 (mt1 (mt1 (mt1 mh))))
  have cc5 := H.cell (w.heap.size + 1) 5 (.bool (c.o 5)) (mt1 (mt1 (mt1 (mt1 (mt1 mh)))))
  have cc6 := H.cell (w.heap.size + 1) 6 (.bool (c.o 6)) (mt1 (mt1 (mt1 (mt1 (mt1 (mt1 mh))))))
  have cc7 := H.cell (w.heap.size + 1) 7 (.slice aR c.nr cR) (mt1 (mt1 (mt1 (mt1 (mt1 (mt1 (mt1 mh)))))))
  have cc8 := H.cell (w.heap.size + 1) 8 (.slice aD c.nd cD) (mt8 mh)
  have lc := H.lt (w.heap.size + 1) 0 (.bool (c.o 0)) mh
  go_wp2_with fail
  clear cc0 cc1 cc2 cc3 cc4 cc5 cc6 cc7 cc8 lc
  (with_reducible refine (prev_is c aR cR aD cD (n + z) q h _ (H.factsW (mt32 (mt8 (mt1 (mt1 (mt1 mh)))))) MM.out (H.cal (mt32 (mt8 (mt1 (mt1 mh))))) (by omega) H4.out).mono ?_)
  rintro e w8 ⟨rfl, hb⟩
  replace H := H.below hb
  clear hb
  have cc0 := H.cell (w.heap.size + 1) 0 (.bool (c.o 0)) mh
  have cc1 := H.cell (w.heap.size + 1) 1 (.bool (c.o 1)) (mt1 mh)
  have cc2 := H.cell (w.heap.size + 1) 2 (.bool (c.o 2)) (mt1 (mt1 mh))
  have cc3 := H.cell (w.heap.size + 1) 3 (.bool (c.o 3)) (mt1 (mt1 (mt1 mh)))
  have cc4 := H.cell (w.heap.size + 1) 4 (.bool (c.o 4)) (mt1 (mt1 (mt1 (mt1 mh))))
  have cc5 := H.cell (w.heap.size + 1) 5 (.bool (c.o 5)) (mt1 (mt1 (mt1 (mt1 (mt1 mh)))))
  have cc6 := H.cell (w.heap.size + 1) 6 (.bool (c.o 6)) (mt1 (mt1 (mt1 (mt1 (mt1 (mt1 mh))))))
  have cc7 := H.cell (w.heap.size + 1) 7 (.slice aR c.nr cR) (mt1 (mt1 (mt1 (mt1 (mt1 (mt1 (mt1 mh)))))))
  have cc8 := H.cell (w.heap.size + 1) 8 (.slice aD c.nd cD) (mt8 mh)
  have lc := H.lt (w.heap.size + 1) 0 (.bool (c.o 0)) mh
  repeat' (first | simp only [List.append_eq, List.cons_append, List.nil_append] | go_values | go_skip | go_guarded | go_step | go_upon)
  clear cc0 cc1 cc2 cc3 cc4 cc5 cc6 cc7 cc8 lc
  (with_reducible refine (to_is14 c aR cR aD cD n (k % 5) x 0 _ (H.factsW (mt32 (mt8 (mt1 (mt1 (mt1 mh)))))) MM.out (H.cal (mt32 (mt8 (mt1 (mt1 mh))))) (by omega) H5.out).mono ?_)
  rintro e w9 ⟨rfl, hb⟩
  replace H := H.below hb
  clear hb
  have cc0 := H.cell (w.heap.size + 1) 0 (.bool (c.o 0)) mh
  have cc1 := H.cell (w.heap.size + 1) 1 (.bool (c.o 1)) (mt1 mh)
  have cc2 := H.cell (w.heap.size + 1) 2 (.bool (c.o 2)) (mt1 (mt1 mh))
  have cc3 := H.cell (w.heap.size + 1) 3 (.bool (c.o 3)) (mt1 (mt1 (mt1 mh)))
  have cc4 := H.cell (w.heap.size + 1) 4 (.bool (c.o 4)) (mt1 (mt1 (mt1 (mt1 mh))))
  have cc5 := H.cell (w.heap.size + 1) 5 (.bool (c.o 5)) (mt1 (mt1 (mt1 (mt1 (mt1 mh)))))
  have cc6 := H.cell (w.heap.size + 1) 6 (.bool (c.o 6)) (mt1 (mt1 (mt1 (mt1 (mt1 (mt1 mh))))))
  have cc7 := H.cell (w.heap.size + 1) 7 (.slice aR c.nr cR) (mt1 (mt1 (mt1 (mt1 (mt1 (mt1 (mt1 mh)))))))
  have cc8 := H.cell (w.heap.size + 1) 8 (.slice aD c.nd cD) (mt8 mh)
  have lc := H.lt (w.heap.size + 1) 0 (.bool (c.o 0)) mh
  repeat' (first | simp only [List.append_eq, List.cons_append, List.nil_append] | go_values | go_skip | go_guarded | go_step | go_upon)
  clear cc0 cc1 cc2 cc3 cc4 cc5 cc6 cc7 cc8 lc
  (with_reducible refine (to_is14 c aR cR aD cD x (k % 5) x 0 _ (H.factsW (mt32 (mt8 (mt1 (mt1 (mt1 mh)))))) MM.out (H.cal (mt32 (mt8 (mt1 (mt1 mh))))) bx H6.out).mono ?_)
  rintro e w10 ⟨rfl, hb⟩
  replace H := H.below hb
  clear hb
  repeat' (first | simp only [List.append_eq, List.cons_append, List.nil_append] | go_values | go_skip | go_guarded | go_step | go_upon)
  go_ret
  exact ⟨rfl, H.old⟩

set_option maxHeartbeats 8000000 in
set_option maxRecDepth 100000 in
theorem rorises_AAf (c : Ca) (aR : Option Addr) (cR : Nat) (aD : Option Addr) (cD : Nat) (n z k a b p q i e f g h : Int) (w : World) (hL : FactsW w) (hCc : CalAt w c aR cR aD cD) (bz : 0 ≤ z ∧ z < 256) (bk : 0 ≤ k ∧ k < 256) (hf : decide (c.nr ≤ 12 ∧ c.nd ≤ 60) = true) (hS : c.Small) (hM : c.May) (hd : decide (1 ≤ n ∧ n ≤ 3652059) = true) (nb : 1 ≤ n ∧ n ≤ 3652059) (hr : n + z ≤ 3652059) (h1 : StepIs c 1 n a e) (h2 : StepIs c 1 (n + z) b f) (h3 : StepIs c (-1) n p g) (h4 : StepIs c (-1) (n + z) q h) (h5 : ToIs c n (k % 5) 0 i) (ke : (e == 0) = false) (kg : (g == 0) = false) (ki : (i == 0) = false) :
    Calls Tryd.prog 6 #[.agg #[.bool (c.o 0), .bool (c.o 1), .bool (c.o 2), .bool (c.o 3), .bool (c.o 4), .bool (c.o 5), .bool (c.o 6), .slice aR c.nr cR, .slice aD c.nd cD, .int .i64 n, .int .u8 z, .int .u8 k]] w fun e w' => e = .returned (.bool true) ∧ Below w.heap.size w w' := by
  have H := ((Held.start w).add (f := factsWF) hL).add (f := calF c aR cR aD cD) hCc
  clear hL hCc
  have t0 : decide (n + z > 3652059) = false := decide_eq_false (by omega)
  have ze : (e != 0) = true := by simpa using ke
  have zg : (g != 0) = true := by simpa using kg
  have zi : (i != 0) = true := by simpa using ki
  have HF := Lib.hid hf
  have HZ := Lib.hid hS
  have MM := Lib.hid hM
  have HD := Lib.hid hd
  have H1 := Lib.hid h1
  have H2 := Lib.hid h2
  have H3 := Lib.hid h3
  have H4 := Lib.hid h4
  have H5 := Lib.hid h5
  clear hf hS hM hd h1 h2 h3 h4 h5
  go_enter Tryd.func6, Tryd.ntmps6
  go_wp2_with fail
  replace H := ((H.box_12 (w.heap.size) (.bool (c.o 0)) (.bool (c.o 1)) (.bool (c.o 2)) (.bool (c.o 3)) (.bool (c.o 4)) (.bool (c.o 5)) (.bool (c.o 6)) (.slice aR c.nr cR) (.slice aD c.nd cD) (.int .i64 n) (.int .u8 z) (.int .u8 k) 50 rfl).box_9 (w.heap.size + 1) (.bool (c.o 0)) (.bool (c.o 1)) (.bool (c.o 2)) (.bool (c.o 3)) (.bool (c.o 4)) (.bool (c.o 5)) (.bool (c.o 6)) (.slice aR c.nr cR) (.slice aD c.nd cD) 26 (by simp))
  (with_reducible refine (roshown_any _ (H.factsW (mt32 (mt8 (mt1 (mt1 (mt1 mh))))))).mono ?_)
  rintro e w1 ⟨rfl, hb⟩
  replace H := H.below hb
  clear hb
  have cc0 := H.cell (w.heap.size + 1) 0 (.bool (c.o 0)) mh
  have cc1 := H.cell (w.heap.size + 1) 1 (.bool (c.o 1)) (mt1 mh)
  have cc2 := H.cell (w.heap.size + 1) 2 (.bool (c.o 2)) (mt1 (mt1 mh))
  have cc3 := H.cell (w.heap.size + 1) 3 (.bool (c.o 3)) (mt1 (mt1 (mt1 mh)))
  have cc4 := H.cell (w.heap.size + 1) 4 (.bool (c.o 4)) (mt1 (mt1 (mt1 (mt1 mh))))
  have cc5 := H.cell (w.heap.size + 1) 5 (.bool (c.o 5)) (mt1 (mt1 (mt1 (mt1 (mt1 mh)))))
  have cc6 := H.cell (w.heap.size + 1) 6 (.bool (c.o 6)) (mt1 (mt1 (mt1 (mt1 (mt1 (mt1 mh))))))
  have cc7 := H.cell (w.heap.size + 1) 7 (.slice aR c.nr cR) (mt1 (mt1 (mt1 (mt1 (mt1 (mt1 (mt1 mh)))))))
  have cc8 := H.cell (w.heap.size + 1) 8 (.slice aD c.nd cD) (mt8 mh)
  have lc := H.lt (w.heap.size + 1) 0 (.bool (c.o 0)) mh
  go_wp2_with fail
  clear cc0 cc1 cc2 cc3 cc4 cc5 cc6 cc7 cc8 lc
  (with_reducible refine (few_any c aR cR aD cD true _ HF.out).mono ?_)
  rintro e w2 ⟨rfl, hb⟩
  replace H := H.below hb
  clear hb
  have cc0 := H.cell (w.heap.size + 1) 0 (.bool (c.o 0)) mh
  have cc1 := H.cell (w.heap.size + 1) 1 (.bool (c.o 1)) (mt1 mh)
  have cc2 := H.cell (w.heap.size + 1) 2 (.bool (c.o 2)) (mt1 (mt1 mh))
  have cc3 := H.cell (w.heap.size + 1) 3 (.bool (c.o 3)) (mt1 (mt1 (mt1 mh)))
  have cc4 := H.cell (w.heap.size + 1) 4 (.bool (c.o 4)) (mt1 (mt1 (mt1 (mt1 mh))))
  have cc5 := H.cell (w.heap.size + 1) 5 (.bool (c.o 5)) (mt1 (mt1 (mt1 (mt1 (mt1 mh)))))
  have cc6 := H.cell (w.heap.size + 1) 6 (.bool (c.o 6)) (mt1 (mt1 (mt1 (mt1 (mt1 (mt1 mh))))))
  have cc7 := H.cell (w.heap.size + 1) 7 (.slice aR c.nr cR) (mt1 (mt1 (mt1 (mt1 (mt1 (mt1 (mt1 mh)))))))
  have cc8 := H.cell (w.heap.size + 1) 8 (.slice aD c.nd cD) (mt8 mh)
  have lc := H.lt (w.heap.size + 1) 0 (.bool (c.o 0)) mh
  go_wp2_with fail
  clear cc0 cc1 cc2 cc3 cc4 cc5 cc6 cc7 cc8 lc
  (with_reducible refine (rcmay_any c aR cR aD cD true _ HZ.out (H.cal (mt32 (mt8 (mt1 (mt1 mh))))) ⟨fun _ => MM.out, fun _ => rfl⟩).mono ?_)
  rintro e w3 ⟨rfl, hb⟩
  replace H := H.below hb
  clear hb
  have cc0 := H.cell (w.heap.size + 1) 0 (.bool (c.o 0)) mh
  have cc1 := H.cell (w.heap.size + 1) 1 (.bool (c.o 1)) (mt1 mh)
  have cc2 := H.cell (w.heap.size + 1) 2 (.bool (c.o 2)) (mt1 (mt1 mh))
  have cc3 := H.cell (w.heap.size + 1) 3 (.bool (c.o 3)) (mt1 (mt1 (mt1 mh)))
  have cc4 := H.cell (w.heap.size + 1) 4 (.bool (c.o 4)) (mt1 (mt1 (mt1 (mt1 mh))))
  have cc5 := H.cell (w.heap.size + 1) 5 (.bool (c.o 5)) (mt1 (mt1 (mt1 (mt1 (mt1 mh)))))
  have cc6 := H.cell (w.heap.size + 1) 6 (.bool (c.o 6)) (mt1 (mt1 (mt1 (mt1 (mt1 (mt1 mh))))))
  have cc7 := H.cell (w.heap.size + 1) 7 (.slice aR c.nr cR) (mt1 (mt1 (mt1 (mt1 (mt1 (mt1 (mt1 mh)))))))
  have cc8 := H.cell (w.heap.size + 1) 8 (.slice aD c.nd cD) (mt8 mh)
  have lc := H.lt (w.heap.size + 1) 0 (.bool (c.o 0)) mh
  go_wp2_with fail
  clear cc0 cc1 cc2 cc3 cc4 cc5 cc6 cc7 cc8 lc
  (with_reducible refine (Calls.same (rday13_is n true _ HD.out)).mono ?_)
  rintro e w4 ⟨rfl, hb⟩
  replace H := H.below hb
  clear hb
  have cc0 := H.cell (w.heap.size + 1) 0 (.bool (c.o 0)) mh
  have cc1 := H.cell (w.heap.size + 1) 1 (.bool (c.o 1)) (mt1 mh)
  have cc2 := H.cell (w.heap.size + 1) 2 (.bool (c.o 2)) (mt1 (mt1 mh))
  have cc3 := H.cell (w.heap.size + 1) 3 (.bool (c.o 3)) (mt1 (mt1 (mt1 mh)))
  have cc4 := H.cell (w.heap.size + 1) 4 (.bool (c.o 4)) (mt1 (mt1 (mt1 (mt1 mh))))
  have cc5 := H.cell (w.heap.size + 1) 5 (.bool (c.o 5)) (mt1 (mt1 (mt1 (mt1 (mt1 mh)))))
  have cc6 := H.cell (w.heap.size + 1) 6 (.bool (c.o 6)) (mt1 (mt1 (mt1 (mt1 (mt1 (mt1 mh))))))
  have cc7 := H.cell (w.heap.size + 1) 7 (.slice aR c.nr cR) (mt1 (mt1 (mt1 (mt1 (mt1 (mt1 (mt1 mh)))))))
  have cc8 := H.cell (w.heap.size + 1) 8 (.slice aD c.nd cD) (mt8 mh)
  have lc := H.lt (w.heap.size + 1) 0 (.bool (c.o 0)) mh
  go_wp2_with fail
  clear cc0 cc1 cc2 cc3 cc4 cc5 cc6 cc7 cc8 lc
  (with_reducible refine (next_is c aR cR aD cD n a e _ (H.factsW (mt32 (mt8 (mt1 (mt1 (mt1 mh)))))) MM.out (H.cal (mt32 (mt8 (mt1 (mt1 mh))))) (by omega) H1.out).mono ?_)
  rintro e w5 ⟨rfl, hb⟩
  replace H := H.below hb
  clear hb
  have cc0 := H.cell (w.heap.size + 1) 0 (.bool (c.o 0)) mh
  have cc1 := H.cell (w.heap.size + 1) 1 (.bool (c.o 1)) (mt1 mh)
  have cc2 := H.cell (w.heap.size + 1) 2 (.bool (c.o 2)) (mt1 (mt1 mh))
  have cc3 := H.cell (w.heap.size + 1) 3 (.bool (c.o 3)) (mt1 (mt1 (mt1 mh)))
  have cc4 := H.cell (w.heap.size + 1) 4 (.bool (c.o 4)) (mt1 (mt1 (mt1 (mt1 mh))))
  have cc5 := H.cell (w.heap.size + 1) 5 (.bool (c.o 5)) (mt1 (mt1 (mt1 (mt1 (mt1 mh)))))
  have cc6 := H.cell (w.heap.size + 1) 6 (.bool (c.o 6)) (mt1 (mt1 (mt1 (mt1 (mt1 (mt1 mh))))))
  have cc7 := H.cell (w.heap.size + 1) 7 (.slice aR c.nr cR) (mt1 (mt1 (mt1 (mt1 (mt1 (mt1 (mt1 mh)))))))
  have cc8 := H.cell (w.heap.size + 1) 8 (.slice aD c.nd cD) (mt8 mh)
  have lc := H.lt (w.heap.size + 1) 0 (.bool (c.o 0)) mh
  go_wp2_with fail
  clear cc0 cc1 cc2 cc3 cc4 cc5 cc6 cc7 cc8 lc
  (with_reducible refine (next_is c aR cR aD cD (n + z) b f _ (H.factsW (mt32 (mt8 (mt1 (mt1 (mt1 mh)))))) MM.out (H.cal (mt32 (mt8 (mt1 (mt1 mh))))) (by omega) H2.out).mono ?_)
  rintro e w6 ⟨rfl, hb⟩
  replace H := H.below hb
  clear hb
  have cc0 := H.cell (w.heap.size + 1) 0 (.bool (c.o 0)) mh
  have cc1 := H.cell (w.heap.size + 1) 1 (.bool (c.o 1)) (mt1 mh)
  have cc2 := H.cell (w.heap.size + 1) 2 (.bool (c.o 2)) (mt1 (mt1 mh))
  have cc3 := H.cell (w.heap.size + 1) 3 (.bool (c.o 3)) (mt1 (mt1 (mt1 mh)))
  have cc4 := H.cell (w.heap.size + 1) 4 (.bool (c.o 4)) (mt1 (mt1 (mt1 (mt1 mh))))
  have cc5 := H.cell (w.heap.size + 1) 5 (.bool (c.o 5)) (mt1 (mt1 (mt1 (mt1 (mt1 mh)))))
  have cc6 := H.cell (w.heap.size + 1) 6 (.bool (c.o 6)) (mt1 (mt1 (mt1 (mt1 (mt1 (mt1 mh))))))
  have cc7 := H.cell (w.heap.size + 1) 7 (.slice aR c.nr cR) (mt1 (mt1 (mt1 (mt1 (mt1 (mt1 (mt1 mh)))))))
  have cc8 := H.cell (w.heap.size + 1) 8 (.slice aD c.nd cD) (mt8 mh)
  have lc := H.lt (w.heap.size + 1) 0 (.bool (c.o 0)) mh
  go_wp2_with fail
  clear cc0 cc1 cc2 cc3 cc4 cc5 cc6 cc7 cc8 lc
  (with_reducible refine (prev_is c aR cR aD cD n p g _ (H.factsW (mt32 (mt8 (mt1 (mt1 (mt1 mh)))))) MM.out (H.cal (mt32 (mt8 (mt1 (mt1 mh))))) (by omega) H3.out).mono ?_)
  rintro e w7 ⟨rfl, hb⟩
  replace H := H.below hb
  clear hb
  have cc0 := H.cell (w.heap.size + 1) 0 (.bool (c.o 0)) mh
  have cc1 := H.cell (w.heap.size + 1) 1 (.bool (c.o 1)) (mt1 mh)
  have cc2 := H.cell (w.heap.size + 1) 2 (.bool (c.o 2)) (mt1 (mt1 mh))
  have cc3 := H.cell (w.heap.size + 1) 3 (.bool (c.o 3)) (mt1 (mt1 (mt1 mh)))
  have cc4 := H.cell (w.heap.size + 1) 4 (.bool (c.o 4)) (mt1 (mt1 (mt1 (mt1 mh))))
  have cc5 := H.cell (w.heap.size + 1) 5 (.bool (c.o 5)) (mt1 (mt1 (mt1 (mt1 (mt1 mh)))))
  have cc6 := H.cell (w.heap.size + 1) 6 (.bool (c.o 6)) (mt1 (mt1 (mt1 (mt1 (mt1 (mt1 mh))))))
  have cc7 := H.cell (w.heap.size + 1) 7 (.slice aR c.nr cR) (mt1 (mt1 (mt1 (mt1 (mt1 (mt1 (mt1 mh)))))))
  have cc8 := H.cell (w.heap.size + 1) 8 (.slice aD c.nd cD) (mt8 mh)
  have lc := H.lt (w.heap.size + 1) 0 (.bool (c.o 0)) mh
  go_wp2_with fail
  clear cc0 cc1 cc2 cc3 cc4 cc5 cc6 cc7 cc8 lc
  (with_reducible refine (prev_is c aR cR aD cD (n + z) q h _ (H.factsW (mt32 (mt8 (mt1 (mt1 (mt1 mh)))))) MM.out (H.cal (mt32 (mt8 (mt1 (mt1 mh))))) (by omega) H4.out).mono ?_)
  rintro e w8 ⟨rfl, hb⟩
  replace H := H.below hb
  clear hb
  have cc0 := H.cell (w.heap.size + 1) 0 (.bool (c.o 0)) mh
  have cc1 := H.cell (w.heap.size + 1) 1 (.bool (c.o 1)) (mt1 mh)
  have cc2 := H.cell (w.heap.size + 1) 2 (.bool (c.o 2)) (mt1 (mt1 mh))
  have cc3 := H.cell (w.heap.size + 1) 3 (.bool (c.o 3)) (mt1 (mt1 (mt1 mh)))
  have cc4 := H.cell (w.heap.size + 1) 4 (.bool (c.o 4)) (mt1 (mt1 (mt1 (mt1 mh))))
  have cc5 := H.cell (w.heap.size + 1) 5 (.bool (c.o 5)) (mt1 (mt1 (mt1 (mt1 (mt1 mh)))))
  have cc6 := H.cell (w.heap.size + 1) 6 (.bool (c.o 6)) (mt1 (mt1 (mt1 (mt1 (mt1 (mt1 mh))))))
  have cc7 := H.cell (w.heap.size + 1) 7 (.slice aR c.nr cR) (mt1 (mt1 (mt1 (mt1 (mt1 (mt1 (mt1 mh)))))))
  have cc8 := H.cell (w.heap.size + 1) 8 (.slice aD c.nd cD) (mt8 mh)
  have lc := H.lt (w.heap.size + 1) 0 (.bool (c.o 0)) mh
  repeat' (first | simp only [List.append_eq, List.cons_append, List.nil_append] | go_values | go_skip | go_guarded | go_step | go_upon)
  clear cc0 cc1 cc2 cc3 cc4 cc5 cc6 cc7 cc8 lc
  (with_reducible refine (to_is14 c aR cR aD cD n (k % 5) 0 i _ (H.factsW (mt32 (mt8 (mt1 (mt1 (mt1 mh)))))) MM.out (H.cal (mt32 (mt8 (mt1 (mt1 mh))))) (by omega) H5.out).mono ?_)
  rintro e w9 ⟨rfl, hb⟩
  replace H := H.below hb
  clear hb
  repeat' (first | simp only [List.append_eq, List.cons_append, List.nil_append] | go_values | go_skip | go_guarded | go_step | go_upon)
  go_ret
  exact ⟨rfl, H.old⟩

set_option maxHeartbeats 8000000 in
set_option maxRecDepth 100000 in
theorem rorises_ABt (c : Ca) (aR : Option Addr) (cR : Nat) (aD : Option Addr) (cD : Nat) (n z k a b p q x e f h : Int) (w : World) (hL : FactsW w) (hCc : CalAt w c aR cR aD cD) (bz : 0 ≤ z ∧ z < 256) (bk : 0 ≤ k ∧ k < 256) (hf : decide (c.nr ≤ 12 ∧ c.nd ≤ 60) = true) (hS : c.Small) (hM : c.May) (hd : decide (1 ≤ n ∧ n ≤ 3652059) = true) (nb : 1 ≤ n ∧ n ≤ 3652059) (hr : n + z ≤ 3652059) (h1 : StepIs c 1 n a e) (h2 : StepIs c 1 (n + z) b f) (h3 : StepIs c (-1) n p 0) (h4 : StepIs c (-1) (n + z) q h) (h5 : ToIs c n (k % 5) x 0) (ke : (e == 0) = false) (kh : (h == 0) = false) (h6 : ToIs c x (k % 5) x 0) (bx : -9223372036854775808 ≤ x ∧ x < 9223372036854775808) :
    Calls Tryd.prog 6 #[.agg #[.bool (c.o 0), .bool (c.o 1), .bool (c.o 2), .bool (c.o 3), .bool (c.o 4), .bool (c.o 5), .bool (c.o 6), .slice aR c.nr cR, .slice aD c.nd cD, .int .i64 n, .int .u8 z, .int .u8 k]] w fun e w' => e = .returned (.bool true) ∧ Below w.heap.size w w' := by
  have H := ((Held.start w).add (f := factsWF) hL).add (f := calF c aR cR aD cD) hCc
  clear hL hCc
  have t0 : decide (n + z > 3652059) = false := decide_eq_false (by omega)
  have ze : (e != 0) = true := by simpa using ke
  have zh : (h != 0) = true := by simpa using kh
  have HF := Lib.hid hf
  have HZ := Lib.hid hS
  have MM := Lib.hid hM
  have HD := Lib.hid hd
  have H1 := Lib.hid h1
  have H2 := Lib.hid h2
  have H3 := Lib.hid h3
  have H4 := Lib.hid h4
  have H5 := Lib.hid h5
  have H6 := Lib.hid h6
  clear hf hS hM hd h1 h2 h3 h4 h5 h6
  go_enter Tryd.func6, Tryd.ntmps6
  go_wp2_with fail
  replace H := ((H.box_12 (w.heap.size) (.bool (c.o 0)) (.bool (c.o 1)) (.bool (c.o 2)) (.bool (c.o 3)) (.bool (c.o 4)) (.bool (c.o 5)) (.bool (c.o 6)) (.slice aR c.nr cR) (.slice aD c.nd cD) (.int .i64 n) (.int .u8 z) (.int .u8 k) 50 rfl).box_9 (w.heap.size + 1) (.bool (c.o 0)) (.bool (c.o 1)) (.bool (c.o 2)) (.bool (c.o 3)) (.bool (c.o 4)) (.bool (c.o 5)) (.bool (c.o 6)) (.slice aR c.nr cR) (.slice aD c.nd cD) 26 (by simp))
  (with_reducible refine (roshown_any _ (H.factsW (mt32 (mt8 (mt1 (mt1 (mt1 mh))))))).mono ?_)
  rintro e w1 ⟨rfl, hb⟩
  replace H := H.below hb
  clear hb
  have cc0 := H.cell (w.heap.size + 1) 0 (.bool (c.o 0)) mh
  have cc1 := H.cell (w.heap.size + 1) 1 (.bool (c.o 1)) (mt1 mh)
  have cc2 := H.cell (w.heap.size + 1) 2 (.bool (c.o 2)) (mt1 (mt1 mh))
  have cc3 := H.cell (w.heap.size + 1) 3 (.bool (c.o 3)) (mt1 (mt1 (mt1 mh)))
  have cc4 := H.cell (w.heap.size + 1) 4 (.bool (c.o 4)) (mt1 (mt1 (mt1 (mt1 mh))))
  have cc5 := H.cell (w.heap.size + 1) 5 (.bool (c.o 5)) (mt1 (mt1 (mt1 (mt1 (mt1 mh)))))
  have cc6 := H.cell (w.heap.size + 1) 6 (.bool (c.o 6)) (mt1 (mt1 (mt1 (mt1 (mt1 (mt1 mh))))))
  have cc7 := H.cell (w.heap.size + 1) 7 (.slice aR c.nr cR) (mt1 (mt1 (mt1 (mt1 (mt1 (mt1 (mt1 mh)))))))
  have cc8 := H.cell (w.heap.size + 1) 8 (.slice aD c.nd cD) (mt8 mh)
  have lc := H.lt (w.heap.size + 1) 0 (.bool (c.o 0)) mh
  go_wp2_with fail
  clear cc0 cc1 cc2 cc3 cc4 cc5 cc6 cc7 cc8 lc
  (with_reducible refine (few_any c aR cR aD cD true _ HF.out).mono ?_)
  rintro e w2 ⟨rfl, hb⟩
  replace H := H.below hb
  clear hb
  have cc0 := H.cell (w.heap.size + 1) 0 (.bool (c.o 0)) mh
  have cc1 := H.cell (w.heap.size + 1) 1 (.bool (c.o 1)) (mt1 mh)
  have cc2 := H.cell (w.heap.size + 1) 2 (.bool (c.o 2)) (mt1 (mt1 mh))
  have cc3 := H.cell (w.heap.size + 1) 3 (.bool (c.o 3)) (mt1 (mt1 (mt1 mh)))
  have cc4 := H.cell (w.heap.size + 1) 4 (.bool (c.o 4)) (mt1 (mt1 (mt1 (mt1 mh))))
  have cc5 := H.cell (w.heap.size + 1) 5 (.bool (c.o 5)) (mt1 (mt1 (mt1 (mt1 (mt1 mh)))))
  have cc6 := H.cell (w.heap.size + 1) 6 (.bool (c.o 6)) (mt1 (mt1 (mt1 (mt1 (mt1 (mt1 mh))))))
  have cc7 := H.cell (w.heap.size + 1) 7 (.slice aR c.nr cR) (mt1 (mt1 (mt1 (mt1 (mt1 (mt1 (mt1 mh)))))))
  have cc8 := H.cell (w.heap.size + 1) 8 (.slice aD c.nd cD) (mt8 mh)
  have lc := H.lt (w.heap.size + 1) 0 (.bool (c.o 0)) mh
  go_wp2_with fail
  clear cc0 cc1 cc2 cc3 cc4 cc5 cc6 cc7 cc8 lc
  (with_reducible refine (rcmay_any c aR cR aD cD true _ HZ.out (H.cal (mt32 (mt8 (mt1 (mt1 mh))))) ⟨fun _ => MM.out, fun _ => rfl⟩).mono ?_)
  rintro e w3 ⟨rfl, hb⟩
  replace H := H.below hb
  clear hb
  have cc0 := H.cell (w.heap.size + 1) 0 (.bool (c.o 0)) mh
  have cc1 := H.cell (w.heap.size + 1) 1 (.bool (c.o 1)) (mt1 mh)
  have cc2 := H.cell (w.heap.size + 1) 2 (.bool (c.o 2)) (mt1 (mt1 mh))
  have cc3 := H.cell (w.heap.size + 1) 3 (.bool (c.o 3)) (mt1 (mt1 (mt1 mh)))
  have cc4 := H.cell (w.heap.size + 1) 4 (.bool (c.o 4)) (mt1 (mt1 (mt1 (mt1 mh))))
  have cc5 := H.cell (w.heap.size + 1) 5 (.bool (c.o 5)) (mt1 (mt1 (mt1 (mt1 (mt1 mh)))))
  have cc6 := H.cell (w.heap.size + 1) 6 (.bool (c.o 6)) (mt1 (mt1 (mt1 (mt1 (mt1 (mt1 mh))))))
  have cc7 := H.cell (w.heap.size + 1) 7 (.slice aR c.nr cR) (mt1 (mt1 (mt1 (mt1 (mt1 (mt1 (mt1 mh)))))))
  have cc8 := H.cell (w.heap.size + 1) 8 (.slice aD c.nd cD) (mt8 mh)
  have lc := H.lt (w.heap.size + 1) 0 (.bool (c.o 0)) mh
  go_wp2_with fail
  clear cc0 cc1 cc2 cc3 cc4 cc5 cc6 cc7 cc8 lc
  (with_reducible refine (Calls.same (rday13_is n true _ HD.out)).mono ?_)
  rintro e w4 ⟨rfl, hb⟩
  replace H := H.below hb
  clear hb
  have cc0 := H.cell (w.heap.size + 1) 0 (.bool (c.o 0)) mh
  have cc1 := H.cell (w.heap.size + 1) 1 (.bool (c.o 1)) (mt1 mh)
  have cc2 := H.cell (w.heap.size + 1) 2 (.bool (c.o 2)) (mt1 (mt1 mh))
  have cc3 := H.cell (w.heap.size + 1) 3 (.bool (c.o 3)) (mt1 (mt1 (mt1 mh)))
  have cc4 := H.cell (w.heap.size + 1) 4 (.bool (c.o 4)) (mt1 (mt1 (mt1 (mt1 mh))))
  have cc5 := H.cell (w.heap.size + 1) 5 (.bool (c.o 5)) (mt1 (mt1 (mt1 (mt1 (mt1 mh)))))
  have cc6 := H.cell (w.heap.size + 1) 6 (.bool (c.o 6)) (mt1 (mt1 (mt1 (mt1 (mt1 (mt1 mh))))))
  have cc7 := H.cell (w.heap.size + 1) 7 (.slice aR c.nr cR) (mt1 (mt1 (mt1 (mt1 (mt1 (mt1 (mt1 mh)))))))
  have cc8 := H.cell (w.heap.size + 1) 8 (.slice aD c.nd cD) (mt8 mh)
  have lc := H.lt (w.heap.size + 1) 0 (.bool (c.o 0)) mh
  go_wp2_with fail
  clear cc0 cc1 cc2 cc3 cc4 cc5 cc6 cc7 cc8 lc
  (with_reducible refine (next_is c aR cR aD cD n a e _ (H.factsW (mt32 (mt8 (mt1 (mt1 (mt1 mh)))))) MM.out (H.cal (mt32 (mt8 (mt1 (mt1 mh))))) (by omega) H1.out).mono ?_)
  rintro e w5 ⟨rfl, hb⟩
  replace H := H.below hb
  clear hb
  have cc0 := H.cell (w.heap.size + 1) 0 (.bool (c.o 0)) mh
  have cc1 := H.cell (w.heap.size + 1) 1 (.bool (c.o 1)) (mt1 mh)
  have cc2 := H.cell (w.heap.size + 1) 2 (.bool (c.o 2)) (mt1 (mt1 mh))
  have cc3 := H.cell (w.heap.size + 1) 3 (.bool (c.o 3)) (mt1 (mt1 (mt1 mh)))
  have cc4 := H.cell (w.heap.size + 1) 4 (.bool (c.o 4)) (mt1 (mt1 (mt1 (mt1 mh))))
  have cc5 := H.cell (w.heap.size + 1) 5 (.bool (c.o 5)) (mt1 (mt1 (mt1 (mt1 (mt1 mh)))))
  have cc6 := H.cell (w.heap.size + 1) 6 (.bool (c.o 6)) (mt1 (mt1 (mt1 (mt1 (mt1 (mt1 mh))))))
  have cc7 := H.cell (w.heap.size + 1) 7 (.slice aR c.nr cR) (mt1 (mt1 (mt1 (mt1 (mt1 (mt1 (mt1 mh)))))))
  have cc8 := H.cell (w.heap.size + 1) 8 (.slice aD c.nd cD) (mt8 mh)
  have lc := H.lt (w.heap.size + 1) 0 (.bool (c.o 0)) mh
  go_wp2_with fail
  clear cc0 cc1 cc2 cc3 cc4 cc5 cc6 cc7 cc8 lc
  (with_reducible refine (next_is c aR cR aD cD (n + z) b f _ (H.factsW (mt32 (mt8 (mt1 (mt1 (mt1 mh)))))) MM.out (H.cal (mt32 (mt8 (mt1 (mt1 mh))))) (by omega) H2.out).mono ?_)
  rintro e w6 ⟨rfl, hb⟩
  replace H := H.below hb
  clear hb
  have cc0 := H.cell (w.heap.size + 1) 0 (.bool (c.o 0)) mh
  have cc1 := H.cell (w.heap.size + 1) 1 (.bool (c.o 1)) (mt1 mh)
  have cc2 := H.cell (w.heap.size + 1) 2 (.bool (c.o 2)) (mt1 (mt1 mh))
  have cc3 := H.cell (w.heap.size + 1) 3 (.bool (c.o 3)) (mt1 (mt1 (mt1 mh)))
  have cc4 := H.cell (w.heap.size + 1) 4 (.bool (c.o 4)) (mt1 (mt1 (mt1 (mt1 mh))))
  have cc5 := H.cell (w.heap.size + 1) 5 (.bool (c.o 5)) (mt1 (mt1 (mt1 (mt1 (mt1 mh)))))
  have cc6 := H.cell (w.heap.size + 1) 6 (.bool (c.o 6)) (mt1 (mt1 (mt1 (mt1 (mt1 (mt1 mh))))))
  have cc7 := H.cell (w.heap.size + 1) 7 (.slice aR c.nr cR) (mt1 (mt1 (mt1 (mt1 (mt1 (mt1 (mt1 mh)))))))
  have cc8 := H.cell (w.heap.size + 1) 8 (.slice aD c.nd cD) (mt8 mh)
  have lc := H.lt (w.heap.size + 1) 0 (.bool (c.o 0)) mh
  go_wp2_with fail
  clear cc0 cc1 cc2 cc3 cc4 cc5 cc6 cc7 cc8 lc
  (with_reducible refine (prev_is c aR cR aD cD n p 0 _ (H.factsW (mt32 (mt8 (mt1 (mt1 (mt1 mh)))))) MM.out (H.cal (mt32 (mt8 (mt1 (mt1 mh))))) (by omega) H3.out).mono ?_)
  rintro e w7 ⟨rfl, hb⟩
  replace H := H.below hb
  clear hb
  have cc0 := H.cell (w.heap.size + 1) 0 (.bool (c.o 0)) mh
  have cc1 := H.cell (w.heap.size + 1) 1 (.bool (c.o 1)) (mt1 mh)
  have cc2 := H.cell (w.heap.size + 1) 2 (.bool (c.o 2)) (mt1 (mt1 mh))
  have cc3 := H.cell (w.heap.size + 1) 3 (.bool (c.o 3)) (mt1 (mt1 (mt1 mh)))
  have cc4 := H.cell (w.heap.size + 1) 4 (.bool (c.o 4)) (mt1 (mt1 (mt1 (mt1 mh))))
  have cc5 := H.cell (w.heap.size + 1) 5 (.bool (c.o 5)) (mt1 (mt1 (mt1 (mt1 (mt1 mh)))))
  have cc6 := H.cell (w.heap.size + 1) 6 (.bool (c.o 6)) (mt1 (mt1 (mt1 (mt1 (mt1 (mt1 mh))))))
  have cc7 := H.cell (w.heap.size + 1) 7 (.slice aR c.nr cR) (mt1 (mt1 (mt1 (mt1 (mt1 (mt1 (mt1 mh)))))))
  have cc8 := H.cell (w.heap.size + 1) 8 (.slice aD c.nd cD) (mt8 mh)
  have lc := H.lt (w.heap.size + 1) 0 (.bool (c.o 0)) mh
  go_wp2_with fail
  clear cc0 cc1 cc2 cc3 cc4 cc5 cc6 cc7 cc8 lc
  (with_reducible refine (prev_is c aR cR aD cD (n + z) q h _ (H.factsW (mt32 (mt8 (mt1 (mt1 (mt1 mh)))))) MM.out (H.cal (mt32 (mt8 (mt1 (mt1 mh))))) (by omega) H4.out).mono ?_)
  rintro e w8 ⟨rfl, hb⟩
  replace H := H.below hb
  clear hb
  have cc0 := H.cell (w.heap.size + 1) 0 (.bool (c.o 0)) mh
  have cc1 := H.cell (w.heap.size + 1) 1 (.bool (c.o 1)) (mt1 mh)
  have cc2 := H.cell (w.heap.size + 1) 2 (.bool (c.o 2)) (mt1 (mt1 mh))
  have cc3 := H.cell (w.heap.size + 1) 3 (.bool (c.o 3)) (mt1 (mt1 (mt1 mh)))
  have cc4 := H.cell (w.heap.size + 1) 4 (.bool (c.o 4)) (mt1 (mt1 (mt1 (mt1 mh))))
  have cc5 := H.cell (w.heap.size + 1) 5 (.bool (c.o 5)) (mt1 (mt1 (mt1 (mt1 (mt1 mh)))))
  have cc6 := H.cell (w.heap.size + 1) 6 (.bool (c.o 6)) (mt1 (mt1 (mt1 (mt1 (mt1 (mt1 mh))))))
  have cc7 := H.cell (w.heap.size + 1) 7 (.slice aR c.nr cR) (mt1 (mt1 (mt1 (mt1 (mt1 (mt1 (mt1 mh)))))))
  have cc8 := H.cell (w.heap.size + 1) 8 (.slice aD c.nd cD) (mt8 mh)
  have lc := H.lt (w.heap.size + 1) 0 (.bool (c.o 0)) mh
  repeat' (first | simp only [List.append_eq, List.cons_append, List.nil_append] | go_values | go_skip | go_guarded | go_step | go_upon)
  clear cc0 cc1 cc2 cc3 cc4 cc5 cc6 cc7 cc8 lc
  (with_reducible refine (to_is14 c aR cR aD cD n (k % 5) x 0 _ (H.factsW (mt32 (mt8 (mt1 (mt1 (mt1 mh)))))) MM.out (H.cal (mt32 (mt8 (mt1 (mt1 mh))))) (by omega) H5.out).mono ?_)
  rintro e w9 ⟨rfl, hb⟩
  replace H := H.below hb
  clear hb
  have cc0 := H.cell (w.heap.size + 1) 0 (.bool (c.o 0)) mh
  have cc1 := H.cell (w.heap.size + 1) 1 (.bool (c.o 1)) (mt1 mh)
  have cc2 := H.cell (w.heap.size + 1) 2 (.bool (c.o 2)) (mt1 (mt1 mh))
  have cc3 := H.cell (w.heap.size + 1) 3 (.bool (c.o 3)) (mt1 (mt1 (mt1 mh)))
  have cc4 := H.cell (w.heap.size + 1) 4 (.bool (c.o 4)) (mt1 (mt1 (mt1 (mt1 mh))))
  have cc5 := H.cell (w.heap.size + 1) 5 (.bool (c.o 5)) (mt1 (mt1 (mt1 (mt1 (mt1 mh)))))
  have cc6 := H.cell (w.heap.size + 1) 6 (.bool (c.o 6)) (mt1 (mt1 (mt1 (mt1 (mt1 (mt1 mh))))))
  have cc7 := H.cell (w.heap.size + 1) 7 (.slice aR c.nr cR) (mt1 (mt1 (mt1 (mt1 (mt1 (mt1 (mt1 mh)))))))
  have cc8 := H.cell (w.heap.size + 1) 8 (.slice aD c.nd cD) (mt8 mh)
  have lc := H.lt (w.heap.size + 1) 0 (.bool (c.o 0)) mh
  repeat' (first | simp only [List.append_eq, List.cons_append, List.nil_append] | go_values | go_skip | go_guarded | go_step | go_upon)
  clear cc0 cc1 cc2 cc3 cc4 cc5 cc6 cc7 cc8 lc
  (with_reducible refine (to_is14 c aR cR aD cD x (k % 5) x 0 _ (H.factsW (mt32 (mt8 (mt1 (mt1 (mt1 mh)))))) MM.out (H.cal (mt32 (mt8 (mt1 (mt1 mh))))) bx H6.out).mono ?_)
  rintro e w10 ⟨rfl, hb⟩
  replace H := H.below hb
  clear hb
  repeat' (first | simp only [List.append_eq, List.cons_append, List.nil_append] | go_values | go_skip | go_guarded | go_step | go_upon)
  go_ret
  exact ⟨rfl, H.old⟩

set_option maxHeartbeats 8000000 in
set_option maxRecDepth 100000 in
theorem rorises_ABf (c : Ca) (aR : Option Addr) (cR : Nat) (aD : Option Addr) (cD : Nat) (n z k a b p q i e f h : Int) (w : World) (hL : FactsW w) (hCc : CalAt w c aR cR aD cD) (bz : 0 ≤ z ∧ z < 256) (bk : 0 ≤ k ∧ k < 256) (hf : decide (c.nr ≤ 12 ∧ c.nd ≤ 60) = true) (hS : c.Small) (hM : c.May) (hd : decide (1 ≤ n ∧ n ≤ 3652059) = true) (nb : 1 ≤ n ∧ n ≤ 3652059) (hr : n + z ≤ 3652059) (h1 : StepIs c 1 n a e) (h2 : StepIs c 1 (n + z) b f) (h3 : StepIs c (-1) n p 0) (h4 : StepIs c (-1) (n + z) q h) (h5 : ToIs c n (k % 5) 0 i) (ke : (e == 0) = false) (kh : (h == 0) = false) (ki : (i == 0) = false) :
    Calls Tryd.prog 6 #[.agg #[.bool (c.o 0), .bool (c.o 1), .bool (c.o 2), .bool (c.o 3), .bool (c.o 4), .bool (c.o 5), .bool (c.o 6), .slice aR c.nr cR, .slice aD c.nd cD, .int .i64 n, .int .u8 z, .int .u8 k]] w fun e w' => e = .returned (.bool true) ∧ Below w.heap.size w w' := by
  have H := ((Held.start w).add (f := factsWF) hL).add (f := calF c aR cR aD cD) hCc
  clear hL hCc
  have t0 : decide (n + z > 3652059) = false := decide_eq_false (by omega)
  have ze : (e != 0) = true := by simpa using ke
  have zh : (h != 0) = true := by simpa using kh
  have zi : (i != 0) = true := by simpa using ki
  have HF := Lib.hid hf
  have HZ := Lib.hid hS
  have MM := Lib.hid hM
  have HD := Lib.hid hd
  have H1 := Lib.hid h1
  have H2 := Lib.hid h2
  have H3 := Lib.hid h3
  have H4 := Lib.hid h4
  have H5 := Lib.hid h5
  clear hf hS hM hd h1 h2 h3 h4 h5
  go_enter Tryd.func6, Tryd.ntmps6
  go_wp2_with fail
  replace H := ((H.box_12 (w.heap.size) (.bool (c.o 0)) (.bool (c.o 1)) (.bool (c.o 2)) (.bool (c.o 3)) (.bool (c.o 4)) (.bool (c.o 5)) (.bool (c.o 6)) (.slice aR c.nr cR) (.slice aD c.nd cD) (.int .i64 n) (.int .u8 z) (.int .u8 k) 50 rfl).box_9 (w.heap.size + 1) (.bool (c.o 0)) (.bool (c.o 1)) (.bool (c.o 2)) (.bool (c.o 3)) (.bool (c.o 4)) (.bool (c.o 5)) (.bool (c.o 6)) (.slice aR c.nr cR) (.slice aD c.nd cD) 26 (by simp))
  (with_reducible refine (roshown_any _ (H.factsW (mt32 (mt8 (mt1 (mt1 (mt1 mh))))))).mono ?_)
  rintro e w1 ⟨rfl, hb⟩
  replace H := H.below hb
  clear hb
  have cc0 := H.cell (w.heap.size + 1) 0 (.bool (c.o 0)) mh
  have cc1 := H.cell (w.heap.size + 1) 1 (.bool (c.o 1)) (mt1 mh)
  have cc2 := H.cell (w.heap.size + 1) 2 (.bool (c.o 2)) (mt1 (mt1 mh))
  have cc3 := H.cell (w.heap.size + 1) 3 (.bool (c.o 3)) (mt1 (mt1 (mt1 mh)))
  have cc4 := H.cell (w.heap.size + 1) 4 (.bool (c.o 4)) (mt1 (mt1 (mt1 (mt1 mh))))
  have cc5 := H.cell (w.heap.size + 1) 5 (.bool (c.o 5)) (mt1 (mt1 (mt1 (mt1 (mt1 mh)))))
  have cc6 := H.cell (w.heap.size + 1) 6 (.bool (c.o 6)) (mt1 (mt1 (mt1 (mt1 (mt1 (mt1 mh))))))
  have cc7 := H.cell (w.heap.size + 1) 7 (.slice aR c.nr cR) (mt1 (mt1 (mt1 (mt1 (mt1 (mt1 (mt1 mh)))))))
  have cc8 := H.cell (w.heap.size + 1) 8 (.slice aD c.nd cD) (mt8 mh)
  have lc := H.lt (w.heap.size + 1) 0 (.bool (c.o 0)) mh
  go_wp2_with fail
  clear cc0 cc1 cc2 cc3 cc4 cc5 cc6 cc7 cc8 lc
  (with_reducible refine (few_any c aR cR aD cD true _ HF.out).mono ?_)
  rintro e w2 ⟨rfl, hb⟩
  replace H := H.below hb
  clear hb
  have cc0 := H.cell (w.heap.size + 1) 0 (.bool (c.o 0)) mh
  have cc1 := H.cell (w.heap.size + 1) 1 (.bool (c.o 1)) (mt1 mh)
  have cc2 := H.cell (w.heap.size + 1) 2 (.bool (c.o 2)) (mt1 (mt1 mh))
  have cc3 := H.cell (w.heap.size + 1) 3 (.bool (c.o 3)) (mt1 (mt1 (mt1 mh)))
  have cc4 := H.cell (w.heap.size + 1) 4 (.bool (c.o 4)) (mt1 (mt1 (mt1 (mt1 mh))))
  have cc5 := H.cell (w.heap.size + 1) 5 (.bool (c.o 5)) (mt1 (mt1 (mt1 (mt1 (mt1 mh)))))
  have cc6 := H.cell (w.heap.size + 1) 6 (.bool (c.o 6)) (mt1 (mt1 (mt1 (mt1 (mt1 (mt1 mh))))))
  have cc7 := H.cell (w.heap.size + 1) 7 (.slice aR c.nr cR) (mt1 (mt1 (mt1 (mt1 (mt1 (mt1 (mt1 mh)))))))
  have cc8 := H.cell (w.heap.size + 1) 8 (.slice aD c.nd cD) (mt8 mh)
  have lc := H.lt (w.heap.size + 1) 0 (.bool (c.o 0)) mh
  go_wp2_with fail
  clear cc0 cc1 cc2 cc3 cc4 cc5 cc6 cc7 cc8 lc
  (with_reducible refine (rcmay_any c aR cR aD cD true _ HZ.out (H.cal (mt32 (mt8 (mt1 (mt1 mh))))) ⟨fun _ => MM.out, fun _ => rfl⟩).mono ?_)
  rintro e w3 ⟨rfl, hb⟩
  replace H := H.below hb
  clear hb
  have cc0 := H.cell (w.heap.size + 1) 0 (.bool (c.o 0)) mh
  have cc1 := H.cell (w.heap.size + 1) 1 (.bool (c.o 1)) (mt1 mh)
  have cc2 := H.cell (w.heap.size + 1) 2 (.bool (c.o 2)) (mt1 (mt1 mh))
  have cc3 := H.cell (w.heap.size + 1) 3 (.bool (c.o 3)) (mt1 (mt1 (mt1 mh)))
  have cc4 := H.cell (w.heap.size + 1) 4 (.bool (c.o 4)) (mt1 (mt1 (mt1 (mt1 mh))))
  have cc5 := H.cell (w.heap.size + 1) 5 (.bool (c.o 5)) (mt1 (mt1 (mt1 (mt1 (mt1 mh)))))
  have cc6 := H.cell (w.heap.size + 1) 6 (.bool (c.o 6)) (mt1 (mt1 (mt1 (mt1 (mt1 (mt1 mh))))))
  have cc7 := H.cell (w.heap.size + 1) 7 (.slice aR c.nr cR) (mt1 (mt1 (mt1 (mt1 (mt1 (mt1 (mt1 mh)))))))
  have cc8 := H.cell (w.heap.size + 1) 8 (.slice aD c.nd cD) (mt8 mh)
  have lc := H.lt (w.heap.size + 1) 0 (.bool (c.o 0)) mh
  go_wp2_with fail
  clear cc0 cc1 cc2 cc3 cc4 cc5 cc6 cc7 cc8 lc
  (with_reducible refine (Calls.same (rday13_is n true _ HD.out)).mono ?_)
  rintro e w4 ⟨rfl, hb⟩
  replace H := H.below hb
  clear hb
  have cc0 := H.cell (w.heap.size + 1) 0 (.bool (c.o 0)) mh
  have cc1 := H.cell (w.heap.size + 1) 1 (.bool (c.o 1)) (mt1 mh)
  have cc2 := H.cell (w.heap.size + 1) 2 (.bool (c.o 2)) (mt1 (mt1 mh))
  have cc3 := H.cell (w.heap.size + 1) 3 (.bool (c.o 3)) (mt1 (mt1 (mt1 mh)))
  have cc4 := H.cell (w.heap.size + 1) 4 (.bool (c.o 4)) (mt1 (mt1 (mt1 (mt1 mh))))
  have cc5 := H.cell (w.heap.size + 1) 5 (.bool (c.o 5)) (mt1 (mt1 (mt1 (mt1 (mt1 mh)))))
  have cc6 := H.cell (w.heap.size + 1) 6 (.bool (c.o 6)) (mt1 (mt1 (mt1 (mt1 (mt1 (mt1 mh))))))
  have cc7 := H.cell (w.heap.size + 1) 7 (.slice aR c.nr cR) (mt1 (mt1 (mt1 (mt1 (mt1 (mt1 (mt1 mh)))))))
  have cc8 := H.cell (w.heap.size + 1) 8 (.slice aD c.nd cD) (mt8 mh)
  have lc := H.lt (w.heap.size + 1) 0 (.bool (c.o 0)) mh
  go_wp2_with fail
  clear cc0 cc1 cc2 cc3 cc4 cc5 cc6 cc7 cc8 lc
  (with_reducible refine (next_is c aR cR aD cD n a e _ (H.factsW (mt32 (mt8 (mt1 (mt1 (mt1 mh)))))) MM.out (H.cal (mt32 (mt8 (mt1 (mt1 mh))))) (by omega) H1.out).mono ?_)
  rintro e w5 ⟨rfl, hb⟩
  replace H := H.below hb
  clear hb
  have cc0 := H.cell (w.heap.size + 1) 0 (.bool (c.o 0)) mh
  have cc1 := H.cell (w.heap.size + 1) 1 (.bool (c.o 1)) (mt1 mh)
  have cc2 := H.cell (w.heap.size + 1) 2 (.bool (c.o 2)) (mt1 (mt1 mh))
  have cc3 := H.cell (w.heap.size + 1) 3 (.bool (c.o 3)) (mt1 (mt1 (mt1 mh)))
  have cc4 := H.cell (w.heap.size + 1) 4 (.bool (c.o 4)) (mt1 (mt1 (mt1 (mt1 mh))))
  have cc5 := H.cell (w.heap.size + 1) 5 (.bool (c.o 5)) (mt1 (mt1 (mt1 (mt1 (mt1 mh)))))
  have cc6 := H.cell (w.heap.size + 1) 6 (.bool (c.o 6)) (mt1 (mt1 (mt1 (mt1 (mt1 (mt1 mh))))))
  have cc7 := H.cell (w.heap.size + 1) 7 (.slice aR c.nr cR) (mt1 (mt1 (mt1 (mt1 (mt1 (mt1 (mt1 mh)))))))
  have cc8 := H.cell (w.heap.size + 1) 8 (.slice aD c.nd cD) (mt8 mh)
  have lc := H.lt (w.heap.size + 1) 0 (.bool (c.o 0)) mh
  go_wp2_with fail
  clear cc0 cc1 cc2 cc3 cc4 cc5 cc6 cc7 cc8 lc
  (with_reducible refine (next_is c aR cR aD cD (n + z) b f _ (H.factsW (mt32 (mt8 (mt1 (mt1 (mt1 mh)))))) MM.out (H.cal (mt32 (mt8 (mt1 (mt1 mh))))) (by omega) H2.out).mono ?_)
  rintro e w6 ⟨rfl, hb⟩
  replace H := H.below hb
  clear hb
  have cc0 := H.cell (w.heap.size + 1) 0 (.bool (c.o 0)) mh
  have cc1 := H.cell (w.heap.size + 1) 1 (.bool (c.o 1)) (mt1 mh)
  have cc2 := H.cell (w.heap.size + 1) 2 (.bool (c.o 2)) (mt1 (mt1 mh))
  have cc3 := H.cell (w.heap.size + 1) 3 (.bool (c.o 3)) (mt1 (mt1 (mt1 mh)))
  have cc4 := H.cell (w.heap.size + 1) 4 (.bool (c.o 4)) (mt1 (mt1 (mt1 (mt1 mh))))
  have cc5 := H.cell (w.heap.size + 1) 5 (.bool (c.o 5)) (mt1 (mt1 (mt1 (mt1 (mt1 mh)))))
  have cc6 := H.cell (w.heap.size + 1) 6 (.bool (c.o 6)) (mt1 (mt1 (mt1 (mt1 (mt1 (mt1 mh))))))
  have cc7 := H.cell (w.heap.size + 1) 7 (.slice aR c.nr cR) (mt1 (mt1 (mt1 (mt1 (mt1 (mt1 (mt1 mh)))))))
  have cc8 := H.cell (w.heap.size + 1) 8 (.slice aD c.nd cD) (mt8 mh)
  have lc := H.lt (w.heap.size + 1) 0 (.bool (c.o 0)) mh
  go_wp2_with fail
  clear cc0 cc1 cc2 cc3 cc4 cc5 cc6 cc7 cc8 lc
  (with_reducible refine (prev_is c aR cR aD cD n p 0 _ (H.factsW (mt32 (mt8 (mt1 (mt1 (mt1 mh)))))) MM.out (H.cal (mt32 (mt8 (mt1 (mt1 mh))))) (by omega) H3.out).mono ?_)
  rintro e w7 ⟨rfl, hb⟩
  replace H := H.below hb
  clear hb
  have cc0 := H.cell (w.heap.size + 1) 0 (.bool (c.o 0)) mh
  have cc1 := H.cell (w.heap.size + 1) 1 (.bool (c.o 1)) (mt1 mh)
  have cc2 := H.cell (w.heap.size + 1) 2 (.bool (c.o 2)) (mt1 (mt1 mh))
  have cc3 := H.cell (w.heap.size + 1) 3 (.bool (c.o 3)) (mt1 (mt1 (mt1 mh)))
  have cc4 := H.cell (w.heap.size + 1) 4 (.bool (c.o 4)) (mt1 (mt1 (mt1 (mt1 mh))))
  have cc5 := H.cell (w.heap.size + 1) 5 (.bool (c.o 5)) (mt1 (mt1 (mt1 (mt1 (mt1 mh)))))
  have cc6 := H.cell (w.heap.size + 1) 6 (.bool (c.o 6)) (mt1 (mt1 (mt1 (mt1 (mt1 (mt1 mh))))))
  have cc7 := H.cell (w.heap.size + 1) 7 (.slice aR c.nr cR) (mt1 (mt1 (mt1 (mt1 (mt1 (mt1 (mt1 mh)))))))
  have cc8 := H.cell (w.heap.size + 1) 8 (.slice aD c.nd cD) (mt8 mh)
  have lc := H.lt (w.heap.size + 1) 0 (.bool (c.o 0)) mh
  go_wp2_with fail
  clear cc0 cc1 cc2 cc3 cc4 cc5 cc6 cc7 cc8 lc
  (with_reducible refine (prev_is c aR cR aD cD (n + z) q h _ (H.factsW (mt32 (mt8 (mt1 (mt1 (mt1 mh)))))) MM.out (H.cal (mt32 (mt8 (mt1 (mt1 mh))))) (by omega) H4.out).mono ?_)
  rintro e w8 ⟨rfl, hb⟩
  replace H := H.below hb
  clear hb
  have cc0 := H.cell (w.heap.size + 1) 0 (.bool (c.o 0)) mh
  have cc1 := H.cell (w.heap.size + 1) 1 (.bool (c.o 1)) (mt1 mh)
  have cc2 := H.cell (w.heap.size + 1) 2 (.bool (c.o 2)) (mt1 (mt1 mh))
  have cc3 := H.cell (w.heap.size + 1) 3 (.bool (c.o 3)) (mt1 (mt1 (mt1 mh)))
  have cc4 := H.cell (w.heap.size + 1) 4 (.bool (c.o 4)) (mt1 (mt1 (mt1 (mt1 mh))))
  have cc5 := H.cell (w.heap.size + 1) 5 (.bool (c.o 5)) (mt1 (mt1 (mt1 (mt1 (mt1 mh)))))
  have cc6 := H.cell (w.heap.size + 1) 6 (.bool (c.o 6)) (mt1 (mt1 (mt1 (mt1 (mt1 (mt1 mh))))))
  have cc7 := H.cell (w.heap.size + 1) 7 (.slice aR c.nr cR) (mt1 (mt1 (mt1 (mt1 (mt1 (mt1 (mt1 mh)))))))
  have cc8 := H.cell (w.heap.size + 1) 8 (.slice aD c.nd cD) (mt8 mh)
  have lc := H.lt (w.heap.size + 1) 0 (.bool (c.o 0)) mh
  repeat' (first | simp only [List.append_eq, List.cons_append, List.nil_append] | go_values | go_skip | go_guarded | go_step | go_upon)
  clear cc0 cc1 cc2 cc3 cc4 cc5 cc6 cc7 cc8 lc
  (with_reducible refine (to_is14 c aR cR aD cD n (k % 5) 0 i _ (H.factsW (mt32 (mt8 (mt1 (mt1 (mt1 mh)))))) MM.out (H.cal (mt32 (mt8 (mt1 (mt1 mh))))) (by omega) H5.out).mono ?_)
  rintro e w9 ⟨rfl, hb⟩
  replace H := H.below hb
  clear hb
  repeat' (first | simp only [List.append_eq, List.cons_append, List.nil_append] | go_values | go_skip | go_guarded | go_step | go_upon)
  go_ret
  exact ⟨rfl, H.old⟩

set_option maxHeartbeats 8000000 in
set_option maxRecDepth 100000 in
theorem rorises_ACt (c : Ca) (aR : Option Addr) (cR : Nat) (aD : Option Addr) (cD : Nat) (n z k a b p q x e f : Int) (w : World) (hL : FactsW w) (hCc : CalAt w c aR cR aD cD) (bz : 0 ≤ z ∧ z < 256) (bk : 0 ≤ k ∧ k < 256) (hf : decide (c.nr ≤ 12 ∧ c.nd ≤ 60) = true) (hS : c.Small) (hM : c.May) (hd : decide (1 ≤ n ∧ n ≤ 3652059) = true) (nb : 1 ≤ n ∧ n ≤ 3652059) (hr : n + z ≤ 3652059) (h1 : StepIs c 1 n a e) (h2 : StepIs c 1 (n + z) b f) (h3 : StepIs c (-1) n p 0) (h4 : StepIs c (-1) (n + z) q 0) (h5 : ToIs c n (k % 5) x 0) (ke : (e == 0) = false) (h6 : ToIs c x (k % 5) x 0) (bx : -9223372036854775808 ≤ x ∧ x < 9223372036854775808) (hpq : decide (p > q) = false) :
    Calls Tryd.prog 6 #[.agg #[.bool (c.o 0), .bool (c.o 1), .bool (c.o 2), .bool (c.o 3), .bool (c.o 4), .bool (c.o 5), .bool (c.o 6), .slice aR c.nr cR, .slice aD c.nd cD, .int .i64 n, .int .u8 z, .int .u8 k]] w fun e w' => e = .returned (.bool true) ∧ Below w.heap.size w w' := by
  have H := ((Held.start w).add (f := factsWF) hL).add (f := calF c aR cR aD cD) hCc
  clear hL hCc
  have t0 : decide (n + z > 3652059) = false := decide_eq_false (by omega)
  have ze : (e != 0) = true := by simpa using ke
  have HF := Lib.hid hf
  have HZ := Lib.hid hS
  have MM := Lib.hid hM
  have HD := Lib.hid hd
  have H1 := Lib.hid h1
  have H2 := Lib.hid h2
  have H3 := Lib.hid h3
  have H4 := Lib.hid h4
  have H5 := Lib.hid h5
  have H6 := Lib.hid h6
  clear hf hS hM hd h1 h2 h3 h4 h5 h6
  go_enter Tryd.func6, Tryd.ntmps6
  go_wp2_with fail
  replace H := ((H.box_12 (w.heap.size) (.bool (c.o 0)) (.bool (c.o 1)) (.bool (c.o 2)) (.bool (c.o 3)) (.bool (c.o 4)) (.bool (c.o 5)) (.bool (c.o 6)) (.slice aR c.nr cR) (.slice aD c.nd cD) (.int .i64 n) (.int .u8 z) (.int .u8 k) 50 rfl).box_9 (w.heap.size + 1) (.bool (c.o 0)) (.bool (c.o 1)) (.bool (c.o 2)) (.bool (c.o 3)) (.bool (c.o 4)) (.bool (c.o 5)) (.bool (c.o 6)) (.slice aR c.nr cR) (.slice aD c.nd cD) 26 (by simp))
  (with_reducible refine (roshown_any _ (H.factsW (mt32 (mt8 (mt1 (mt1 (mt1 mh))))))).mono ?_)
  rintro e w1 ⟨rfl, hb⟩
  replace H := H.below hb
  clear hb
  have cc0 := H.cell (w.heap.size + 1) 0 (.bool (c.o 0)) mh
  have cc1 := H.cell (w.heap.size + 1) 1 (.bool (c.o 1)) (mt1 mh)
  have cc2 := H.cell (w.heap.size + 1) 2 (.bool (c.o 2)) (mt1 (mt1 mh))
  have cc3 := H.cell (w.heap.size + 1) 3 (.bool (c.o 3)) (mt1 (mt1 (mt1 mh)))
  have cc4 := H.cell (w.heap.size + 1) 4 (.bool (c.o 4)) (mt1 (mt1 (mt1 (mt1 mh))))
  have cc5 := H.cell (w.heap.size + 1) 5 (.bool (c.o 5)) (mt1 (mt1 (mt1 (mt1 (mt1 mh)))))
  have cc6 := H.cell (w.heap.size + 1) 6 (.bool (c.o 6)) (mt1 (mt1 (mt1 (mt1 (mt1 (mt1 mh))))))
  have cc7 := H.cell (w.heap.size + 1) 7 (.slice aR c.nr cR) (mt1 (mt1 (mt1 (mt1 (mt1 (mt1 (mt1 mh)))))))
  have cc8 := H.cell (w.heap.size + 1) 8 (.slice aD c.nd cD) (mt8 mh)
  have lc := H.lt (w.heap.size + 1) 0 (.bool (c.o 0)) mh
  go_wp2_with fail
  clear cc0 cc1 cc2 cc3 cc4 cc5 cc6 cc7 cc8 lc
  (with_reducible refine (few_any c aR cR aD cD true _ HF.out).mono ?_)
  rintro e w2 ⟨rfl, hb⟩
  replace H := H.below hb
  clear hb
  have cc0 := H.cell (w.heap.size + 1) 0 (.bool (c.o 0)) mh
  have cc1 := H.cell (w.heap.size + 1) 1 (.bool (c.o 1)) (mt1 mh)
  have cc2 := H.cell (w.heap.size + 1) 2 (.bool (c.o 2)) (mt1 (mt1 mh))
  have cc3 := H.cell (w.heap.size + 1) 3 (.bool (c.o 3)) (mt1 (mt1 (mt1 mh)))
  have cc4 := H.cell (w.heap.size + 1) 4 (.bool (c.o 4)) (mt1 (mt1 (mt1 (mt1 mh))))
  have cc5 := H.cell (w.heap.size + 1) 5 (.bool (c.o 5)) (mt1 (mt1 (mt1 (mt1 (mt1 mh)))))
  have cc6 := H.cell (w.heap.size + 1) 6 (.bool (c.o 6)) (mt1 (mt1 (mt1 (mt1 (mt1 (mt1 mh))))))
  have cc7 := H.cell (w.heap.size + 1) 7 (.slice aR c.nr cR) (mt1 (mt1 (mt1 (mt1 (mt1 (mt1 (mt1 mh)))))))
  have cc8 := H.cell (w.heap.size + 1) 8 (.slice aD c.nd cD) (mt8 mh)
  have lc := H.lt (w.heap.size + 1) 0 (.bool (c.o 0)) mh
  go_wp2_with fail
  clear cc0 cc1 cc2 cc3 cc4 cc5 cc6 cc7 cc8 lc
  (with_reducible refine (rcmay_any c aR cR aD cD true _ HZ.out (H.cal (mt32 (mt8 (mt1 (mt1 mh))))) ⟨fun _ => MM.out, fun _ => rfl⟩).mono ?_)
  rintro e w3 ⟨rfl, hb⟩
  replace H := H.below hb
  clear hb
  have cc0 := H.cell (w.heap.size + 1) 0 (.bool (c.o 0)) mh
  have cc1 := H.cell (w.heap.size + 1) 1 (.bool (c.o 1)) (mt1 mh)
  have cc2 := H.cell (w.heap.size + 1) 2 (.bool (c.o 2)) (mt1 (mt1 mh))
  have cc3 := H.cell (w.heap.size + 1) 3 (.bool (c.o 3)) (mt1 (mt1 (mt1 mh)))
  have cc4 := H.cell (w.heap.size + 1) 4 (.bool (c.o 4)) (mt1 (mt1 (mt1 (mt1 mh))))
  have cc5 := H.cell (w.heap.size + 1) 5 (.bool (c.o 5)) (mt1 (mt1 (mt1 (mt1 (mt1 mh)))))
  have cc6 := H.cell (w.heap.size + 1) 6 (.bool (c.o 6)) (mt1 (mt1 (mt1 (mt1 (mt1 (mt1 mh))))))
  have cc7 := H.cell (w.heap.size + 1) 7 (.slice aR c.nr cR) (mt1 (mt1 (mt1 (mt1 (mt1 (mt1 (mt1 mh)))))))
  have cc8 := H.cell (w.heap.size + 1) 8 (.slice aD c.nd cD) (mt8 mh)
  have lc := H.lt (w.heap.size + 1) 0 (.bool (c.o 0)) mh
  go_wp2_with fail
  clear cc0 cc1 cc2 cc3 cc4 cc5 cc6 cc7 cc8 lc
  (with_reducible refine (Calls.same (rday13_is n true _ HD.out)).mono ?_)
  rintro e w4 ⟨rfl, hb⟩
  replace H := H.below hb
  clear hb
  have cc0 := H.cell (w.heap.size + 1) 0 (.bool (c.o 0)) mh
  have cc1 := H.cell (w.heap.size + 1) 1 (.bool (c.o 1)) (mt1 mh)
  have cc2 := H.cell (w.heap.size + 1) 2 (.bool (c.o 2)) (mt1 (mt1 mh))
  have cc3 := H.cell (w.heap.size + 1) 3 (.bool (c.o 3)) (mt1 (mt1 (mt1 mh)))
  have cc4 := H.cell (w.heap.size + 1) 4 (.bool (c.o 4)) (mt1 (mt1 (mt1 (mt1 mh))))
  have cc5 := H.cell (w.heap.size + 1) 5 (.bool (c.o 5)) (mt1 (mt1 (mt1 (mt1 (mt1 mh)))))
  have cc6 := H.cell (w.heap.size + 1) 6 (.bool (c.o 6)) (mt1 (mt1 (mt1 (mt1 (mt1 (mt1 mh))))))
  have cc7 := H.cell (w.heap.size + 1) 7 (.slice aR c.nr cR) (mt1 (mt1 (mt1 (mt1 (mt1 (mt1 (mt1 mh)))))))
  have cc8 := H.cell (w.heap.size + 1) 8 (.slice aD c.nd cD) (mt8 mh)
  have lc := H.lt (w.heap.size + 1) 0 (.bool (c.o 0)) mh
  go_wp2_with fail
  clear cc0 cc1 cc2 cc3 cc4 cc5 cc6 cc7 cc8 lc
  (with_reducible refine (next_is c aR cR aD cD n a e _ (H.factsW (mt32 (mt8 (mt1 (mt1 (mt1 mh)))))) MM.out (H.cal (mt32 (mt8 (mt1 (mt1 mh))))) (by omega) H1.out).mono ?_)
  rintro e w5 ⟨rfl, hb⟩
  replace H := H.below hb
  clear hb
  have cc0 := H.cell (w.heap.size + 1) 0 (.bool (c.o 0)) mh
  have cc1 := H.cell (w.heap.size + 1) 1 (.bool (c.o 1)) (mt1 mh)
  have cc2 := H.cell (w.heap.size + 1) 2 (.bool (c.o 2)) (mt1 (mt1 mh))
  have cc3 := H.cell (w.heap.size + 1) 3 (.bool (c.o 3)) (mt1 (mt1 (mt1 mh)))
  have cc4 := H.cell (w.heap.size + 1) 4 (.bool (c.o 4)) (mt1 (mt1 (mt1 (mt1 mh))))
  have cc5 := H.cell (w.heap.size + 1) 5 (.bool (c.o 5)) (mt1 (mt1 (mt1 (mt1 (mt1 mh)))))
  have cc6 := H.cell (w.heap.size + 1) 6 (.bool (c.o 6)) (mt1 (mt1 (mt1 (mt1 (mt1 (mt1 mh))))))
  have cc7 := H.cell (w.heap.size + 1) 7 (.slice aR c.nr cR) (mt1 (mt1 (mt1 (mt1 (mt1 (mt1 (mt1 mh)))))))
  have cc8 := H.cell (w.heap.size + 1) 8 (.slice aD c.nd cD) (mt8 mh)
  have lc := H.lt (w.heap.size + 1) 0 (.bool (c.o 0)) mh
  go_wp2_with fail
  clear cc0 cc1 cc2 cc3 cc4 cc5 cc6 cc7 cc8 lc
  (with_reducible refine (next_is c aR cR aD cD (n + z) b f _ (H.factsW (mt32 (mt8 (mt1 (mt1 (mt1 mh)))))) MM.out (H.cal (mt32 (mt8 (mt1 (mt1 mh))))) (by omega) H2.out).mono ?_)
  rintro e w6 ⟨rfl, hb⟩
  replace H := H.below hb
  clear hb
  have cc0 := H.cell (w.heap.size + 1) 0 (.bool (c.o 0)) mh
  have cc1 := H.cell (w.heap.size + 1) 1 (.bool (c.o 1)) (mt1 mh)
  have cc2 := H.cell (w.heap.size + 1) 2 (.bool (c.o 2)) (mt1 (mt1 mh))
  have cc3 := H.cell (w.heap.size + 1) 3 (.bool (c.o 3)) (mt1 (mt1 (mt1 mh)))
  have cc4 := H.cell (w.heap.size + 1) 4 (.bool (c.o 4)) (mt1 (mt1 (mt1 (mt1 mh))))
  have cc5 := H.cell (w.heap.size + 1) 5 (.bool (c.o 5)) (mt1 (mt1 (mt1 (mt1 (mt1 mh)))))
  have cc6 := H.cell (w.heap.size + 1) 6 (.bool (c.o 6)) (mt1 (mt1 (mt1 (mt1 (mt1 (mt1 mh))))))
  have cc7 := H.cell (w.heap.size + 1) 7 (.slice aR c.nr cR) (mt1 (mt1 (mt1 (mt1 (mt1 (mt1 (mt1 mh)))))))
  have cc8 := H.cell (w.heap.size + 1) 8 (.slice aD c.nd cD) (mt8 mh)
  have lc := H.lt (w.heap.size + 1) 0 (.bool (c.o 0)) mh
  go_wp2_with fail
  clear cc0 cc1 cc2 cc3 cc4 cc5 cc6 cc7 cc8 lc
  (with_reducible refine (prev_is c aR cR aD cD n p 0 _ (H.factsW (mt32 (mt8 (mt1 (mt1 (mt1 mh)))))) MM.out (H.cal (mt32 (mt8 (mt1 (mt1 mh))))) (by omega) H3.out).mono ?_)
  rintro e w7 ⟨rfl, hb⟩
  replace H := H.below hb
  clear hb
  have cc0 := H.cell (w.heap.size + 1) 0 (.bool (c.o 0)) mh
  have cc1 := H.cell (w.heap.size + 1) 1 (.bool (c.o 1)) (mt1 mh)
  have cc2 := H.cell (w.heap.size + 1) 2 (.bool (c.o 2)) (mt1 (mt1 mh))
  have cc3 := H.cell (w.heap.size + 1) 3 (.bool (c.o 3)) (mt1 (mt1 (mt1 mh)))
  have cc4 := H.cell (w.heap.size + 1) 4 (.bool (c.o 4)) (mt1 (mt1 (mt1 (mt1 mh))))
  have cc5 := H.cell (w.heap.size + 1) 5 (.bool (c.o 5)) (mt1 (mt1 (mt1 (mt1 (mt1 mh)))))
  have cc6 := H.cell (w.heap.size + 1) 6 (.bool (c.o 6)) (mt1 (mt1 (mt1 (mt1 (mt1 (mt1 mh))))))
  have cc7 := H.cell (w.heap.size + 1) 7 (.slice aR c.nr cR) (mt1 (mt1 (mt1 (mt1 (mt1 (mt1 (mt1 mh)))))))
  have cc8 := H.cell (w.heap.size + 1) 8 (.slice aD c.nd cD) (mt8 mh)
  have lc := H.lt (w.heap.size + 1) 0 (.bool (c.o 0)) mh
  go_wp2_with fail
  clear cc0 cc1 cc2 cc3 cc4 cc5 cc6 cc7 cc8 lc
  (with_reducible refine (prev_is c aR cR aD cD (n + z) q 0 _ (H.factsW (mt32 (mt8 (mt1 (mt1 (mt1 mh)))))) MM.out (H.cal (mt32 (mt8 (mt1 (mt1 mh))))) (by omega) H4.out).mono ?_)
  rintro e w8 ⟨rfl, hb⟩
  replace H := H.below hb
  clear hb
  have cc0 := H.cell (w.heap.size + 1) 0 (.bool (c.o 0)) mh
  have cc1 := H.cell (w.heap.size + 1) 1 (.bool (c.o 1)) (mt1 mh)
  have cc2 := H.cell (w.heap.size + 1) 2 (.bool (c.o 2)) (mt1 (mt1 mh))
  have cc3 := H.cell (w.heap.size + 1) 3 (.bool (c.o 3)) (mt1 (mt1 (mt1 mh)))
  have cc4 := H.cell (w.heap.size + 1) 4 (.bool (c.o 4)) (mt1 (mt1 (mt1 (mt1 mh))))
  have cc5 := H.cell (w.heap.size + 1) 5 (.bool (c.o 5)) (mt1 (mt1 (mt1 (mt1 (mt1 mh)))))
  have cc6 := H.cell (w.heap.size + 1) 6 (.bool (c.o 6)) (mt1 (mt1 (mt1 (mt1 (mt1 (mt1 mh))))))
  have cc7 := H.cell (w.heap.size + 1) 7 (.slice aR c.nr cR) (mt1 (mt1 (mt1 (mt1 (mt1 (mt1 (mt1 mh)))))))
  have cc8 := H.cell (w.heap.size + 1) 8 (.slice aD c.nd cD) (mt8 mh)
  have lc := H.lt (w.heap.size + 1) 0 (.bool (c.o 0)) mh
  repeat' (first | simp only [List.append_eq, List.cons_append, List.nil_append] | go_values | go_skip | go_guarded | go_step | go_upon)
  clear cc0 cc1 cc2 cc3 cc4 cc5 cc6 cc7 cc8 lc
  (with_reducible refine (to_is14 c aR cR aD cD n (k % 5) x 0 _ (H.factsW (mt32 (mt8 (mt1 (mt1 (mt1 mh)))))) MM.out (H.cal (mt32 (mt8 (mt1 (mt1 mh))))) (by omega) H5.out).mono ?_)
  rintro e w9 ⟨rfl, hb⟩
  replace H := H.below hb
  clear hb
  have cc0 := H.cell (w.heap.size + 1) 0 (.bool (c.o 0)) mh
  have cc1 := H.cell (w.heap.size + 1) 1 (.bool (c.o 1)) (mt1 mh)
  have cc2 := H.cell (w.heap.size + 1) 2 (.bool (c.o 2)) (mt1 (mt1 mh))
  have cc3 := H.cell (w.heap.size + 1) 3 (.bool (c.o 3)) (mt1 (mt1 (mt1 mh)))
  have cc4 := H.cell (w.heap.size + 1) 4 (.bool (c.o 4)) (mt1 (mt1 (mt1 (mt1 mh))))
  have cc5 := H.cell (w.heap.size + 1) 5 (.bool (c.o 5)) (mt1 (mt1 (mt1 (mt1 (mt1 mh)))))
  have cc6 := H.cell (w.heap.size + 1) 6 (.bool (c.o 6)) (mt1 (mt1 (mt1 (mt1 (mt1 (mt1 mh))))))
  have cc7 := H.cell (w.heap.size + 1) 7 (.slice aR c.nr cR) (mt1 (mt1 (mt1 (mt1 (mt1 (mt1 (mt1 mh)))))))
  have cc8 := H.cell (w.heap.size + 1) 8 (.slice aD c.nd cD) (mt8 mh)
  have lc := H.lt (w.heap.size + 1) 0 (.bool (c.o 0)) mh
  repeat' (first | simp only [List.append_eq, List.cons_append, List.nil_append] | go_values | go_skip | go_guarded | go_step | go_upon)
  clear cc0 cc1 cc2 cc3 cc4 cc5 cc6 cc7 cc8 lc
  (with_reducible refine (to_is14 c aR cR aD cD x (k % 5) x 0 _ (H.factsW (mt32 (mt8 (mt1 (mt1 (mt1 mh)))))) MM.out (H.cal (mt32 (mt8 (mt1 (mt1 mh))))) bx H6.out).mono ?_)
  rintro e w10 ⟨rfl, hb⟩
  replace H := H.below hb
  clear hb
  repeat' (first | simp only [List.append_eq, List.cons_append, List.nil_append] | go_values | go_skip | go_guarded | go_step | go_upon)
  go_ret
  exact ⟨rfl, H.old⟩

set_option maxHeartbeats 8000000 in
set_option maxRecDepth 100000 in
theorem rorises_ACf (c : Ca) (aR : Option Addr) (cR : Nat) (aD : Option Addr) (cD : Nat) (n z k a b p q i e f : Int) (w : World) (hL : FactsW w) (hCc : CalAt w c aR cR aD cD) (bz : 0 ≤ z ∧ z < 256) (bk : 0 ≤ k ∧ k < 256) (hf : decide (c.nr ≤ 12 ∧ c.nd ≤ 60) = true) (hS : c.Small) (hM : c.May) (hd : decide (1 ≤ n ∧ n ≤ 3652059) = true) (nb : 1 ≤ n ∧ n ≤ 3652059) (hr : n + z ≤ 3652059) (h1 : StepIs c 1 n a e) (h2 : StepIs c 1 (n + z) b f) (h3 : StepIs c (-1) n p 0) (h4 : StepIs c (-1) (n + z) q 0) (h5 : ToIs c n (k % 5) 0 i) (ke : (e == 0) = false) (ki : (i == 0) = false) (hpq : decide (p > q) = false) :
    Calls Tryd.prog 6 #[.agg #[.bool (c.o 0), .bool (c.o 1), .bool (c.o 2), .bool (c.o 3), .bool (c.o 4), .bool (c.o 5), .bool (c.o 6), .slice aR c.nr cR, .slice aD c.nd cD, .int .i64 n, .int .u8 z, .int .u8 k]] w fun e w' => e = .returned (.bool true) ∧ Below w.heap.size w w' := by
  have H := ((Held.start w).add (f := factsWF) hL).add (f := calF c aR cR aD cD) hCc
  clear hL hCc
  have t0 : decide (n + z > 3652059) = false := decide_eq_false (by omega)
  have ze : (e != 0) = true := by simpa using ke
  have zi : (i != 0) = true := by simpa using ki
  have HF := Lib.hid hf
  have HZ := Lib.hid hS
  have MM := Lib.hid hM
  have HD := Lib.hid hd
  have H1 := Lib.hid h1
  have H2 := Lib.hid h2
  have H3 := Lib.hid h3
  have H4 := Lib.hid h4
  have H5 := Lib.hid h5
  clear hf hS hM hd h1 h2 h3 h4 h5
  go_enter Tryd.func6, Tryd.ntmps6
  go_wp2_with fail
  replace H := ((H.box_12 (w.heap.size) (.bool (c.o 0)) (.bool (c.o 1)) (.bool (c.o 2)) (.bool (c.o 3)) (.bool (c.o 4)) (.bool (c.o 5)) (.bool (c.o 6)) (.slice aR c.nr cR) (.slice aD c.nd cD) (.int .i64 n) (.int .u8 z) (.int .u8 k) 50 rfl).box_9 (w.heap.size + 1) (.bool (c.o 0)) (.bool (c.o 1)) (.bool (c.o 2)) (.bool (c.o 3)) (.bool (c.o 4)) (.bool (c.o 5)) (.bool (c.o 6)) (.slice aR c.nr cR) (.slice aD c.nd cD) 26 (by simp))
  (with_reducible refine (roshown_any _ (H.factsW (mt32 (mt8 (mt1 (mt1 (mt1 mh))))))).mono ?_)
  rintro e w1 ⟨rfl, hb⟩
  replace H := H.below hb
  clear hb
  have cc0 := H.cell (w.heap.size + 1) 0 (.bool (c.o 0)) mh
  have cc1 := H.cell (w.heap.size + 1) 1 (.bool (c.o 1)) (mt1 mh)
  have cc2 := H.cell (w.heap.size + 1) 2 (.bool (c.o 2)) (mt1 (mt1 mh))
  have cc3 := H.cell (w.heap.size + 1) 3 (.bool (c.o 3)) (mt1 (mt1 (mt1 mh)))
  have cc4 := H.cell (w.heap.size + 1) 4 (.bool (c.o 4)) (mt1 (mt1 (mt1 (mt1 mh))))
  have cc5 := H.cell (w.heap.size + 1) 5 (.bool (c.o 5)) (mt1 (mt1 (mt1 (mt1 (mt1 mh)))))
  have cc6 := H.cell (w.heap.size + 1) 6 (.bool (c.o 6)) (mt1 (mt1 (mt1 (mt1 (mt1 (mt1 mh))))))
  have cc7 := H.cell (w.heap.size + 1) 7 (.slice aR c.nr cR) (mt1 (mt1 (mt1 (mt1 (mt1 (mt1 (mt1 mh)))))))
  have cc8 := H.cell (w.heap.size + 1) 8 (.slice aD c.nd cD) (mt8 mh)
  have lc := H.lt (w.heap.size + 1) 0 (.bool (c.o 0)) mh
  go_wp2_with fail
  clear cc0 cc1 cc2 cc3 cc4 cc5 cc6 cc7 cc8 lc
  (with_reducible refine (few_any c aR cR aD cD true _ HF.out).mono ?_)
  rintro e w2 ⟨rfl, hb⟩
  replace H := H.below hb
  clear hb
  have cc0 := H.cell (w.heap.size + 1) 0 (.bool (c.o 0)) mh
  have cc1 := H.cell (w.heap.size + 1) 1 (.bool (c.o 1)) (mt1 mh)
  have cc2 := H.cell (w.heap.size + 1) 2 (.bool (c.o 2)) (mt1 (mt1 mh))
  have cc3 := H.cell (w.heap.size + 1) 3 (.bool (c.o 3)) (mt1 (mt1 (mt1 mh)))
  have cc4 := H.cell (w.heap.size + 1) 4 (.bool (c.o 4)) (mt1 (mt1 (mt1 (mt1 mh))))
  have cc5 := H.cell (w.heap.size + 1) 5 (.bool (c.o 5)) (mt1 (mt1 (mt1 (mt1 (mt1 mh)))))
  have cc6 := H.cell (w.heap.size + 1) 6 (.bool (c.o 6)) (mt1 (mt1 (mt1 (mt1 (mt1 (mt1 mh))))))
  have cc7 := H.cell (w.heap.size + 1) 7 (.slice aR c.nr cR) (mt1 (mt1 (mt1 (mt1 (mt1 (mt1 (mt1 mh)))))))
  have cc8 := H.cell (w.heap.size + 1) 8 (.slice aD c.nd cD) (mt8 mh)
  have lc := H.lt (w.heap.size + 1) 0 (.bool (c.o 0)) mh
  go_wp2_with fail
  clear cc0 cc1 cc2 cc3 cc4 cc5 cc6 cc7 cc8 lc
  (with_reducible refine (rcmay_any c aR cR aD cD true _ HZ.out (H.cal (mt32 (mt8 (mt1 (mt1 mh))))) ⟨fun _ => MM.out, fun _ => rfl⟩).mono ?_)
  rintro e w3 ⟨rfl, hb⟩
  replace H := H.below hb
  clear hb
  have cc0 := H.cell (w.heap.size + 1) 0 (.bool (c.o 0)) mh
  have cc1 := H.cell (w.heap.size + 1) 1 (.bool (c.o 1)) (mt1 mh)
  have cc2 := H.cell (w.heap.size + 1) 2 (.bool (c.o 2)) (mt1 (mt1 mh))
  have cc3 := H.cell (w.heap.size + 1) 3 (.bool (c.o 3)) (mt1 (mt1 (mt1 mh)))
  have cc4 := H.cell (w.heap.size + 1) 4 (.bool (c.o 4)) (mt1 (mt1 (mt1 (mt1 mh))))
  have cc5 := H.cell (w.heap.size + 1) 5 (.bool (c.o 5)) (mt1 (mt1 (mt1 (mt1 (mt1 mh)))))
  have cc6 := H.cell (w.heap.size + 1) 6 (.bool (c.o 6)) (mt1 (mt1 (mt1 (mt1 (mt1 (mt1 mh))))))
  have cc7 := H.cell (w.heap.size + 1) 7 (.slice aR c.nr cR) (mt1 (mt1 (mt1 (mt1 (mt1 (mt1 (mt1 mh)))))))
  have cc8 := H.cell (w.heap.size + 1) 8 (.slice aD c.nd cD) (mt8 mh)
  have lc := H.lt (w.heap.size + 1) 0 (.bool (c.o 0)) mh
  go_wp2_with fail
  clear cc0 cc1 cc2 cc3 cc4 cc5 cc6 cc7 cc8 lc
  (with_reducible refine (Calls.same (rday13_is n true _ HD.out)).mono ?_)
  rintro e w4 ⟨rfl, hb⟩
  replace H := H.below hb
  clear hb
  have cc0 := H.cell (w.heap.size + 1) 0 (.bool (c.o 0)) mh
  have cc1 := H.cell (w.heap.size + 1) 1 (.bool (c.o 1)) (mt1 mh)
  have cc2 := H.cell (w.heap.size + 1) 2 (.bool (c.o 2)) (mt1 (mt1 mh))
  have cc3 := H.cell (w.heap.size + 1) 3 (.bool (c.o 3)) (mt1 (mt1 (mt1 mh)))
  have cc4 := H.cell (w.heap.size + 1) 4 (.bool (c.o 4)) (mt1 (mt1 (mt1 (mt1 mh))))
  have cc5 := H.cell (w.heap.size + 1) 5 (.bool (c.o 5)) (mt1 (mt1 (mt1 (mt1 (mt1 mh)))))
  have cc6 := H.cell (w.heap.size + 1) 6 (.bool (c.o 6)) (mt1 (mt1 (mt1 (mt1 (mt1 (mt1 mh))))))
  have cc7 := H.cell (w.heap.size + 1) 7 (.slice aR c.nr cR) (mt1 (mt1 (mt1 (mt1 (mt1 (mt1 (mt1 mh)))))))
  have cc8 := H.cell (w.heap.size + 1) 8 (.slice aD c.nd cD) (mt8 mh)
  have lc := H.lt (w.heap.size + 1) 0 (.bool (c.o 0)) mh
  go_wp2_with fail
  clear cc0 cc1 cc2 cc3 cc4 cc5 cc6 cc7 cc8 lc
  (with_reducible refine (next_is c aR cR aD cD n a e _ (H.factsW (mt32 (mt8 (mt1 (mt1 (mt1 mh)))))) MM.out (H.cal (mt32 (mt8 (mt1 (mt1 mh))))) (by omega) H1.out).mono ?_)
  rintro e w5 ⟨rfl, hb⟩
  replace H := H.below hb
  clear hb
  have cc0 := H.cell (w.heap.size + 1) 0 (.bool (c.o 0)) mh
  have cc1 := H.cell (w.heap.size + 1) 1 (.bool (c.o 1)) (mt1 mh)
  have cc2 := H.cell (w.heap.size + 1) 2 (.bool (c.o 2)) (mt1 (mt1 mh))
  have cc3 := H.cell (w.heap.size + 1) 3 (.bool (c.o 3)) (mt1 (mt1 (mt1 mh)))
  have cc4 := H.cell (w.heap.size + 1) 4 (.bool (c.o 4)) (mt1 (mt1 (mt1 (mt1 mh))))
  have cc5 := H.cell (w.heap.size + 1) 5 (.bool (c.o 5)) (mt1 (mt1 (mt1 (mt1 (mt1 mh)))))
  have cc6 := H.cell (w.heap.size + 1) 6 (.bool (c.o 6)) (mt1 (mt1 (mt1 (mt1 (mt1 (mt1 mh))))))
  have cc7 := H.cell (w.heap.size + 1) 7 (.slice aR c.nr cR) (mt1 (mt1 (mt1 (mt1 (mt1 (mt1 (mt1 mh)))))))
  have cc8 := H.cell (w.heap.size + 1) 8 (.slice aD c.nd cD) (mt8 mh)
  have lc := H.lt (w.heap.size + 1) 0 (.bool (c.o 0)) mh
  go_wp2_with fail
  clear cc0 cc1 cc2 cc3 cc4 cc5 cc6 cc7 cc8 lc
  (with_reducible refine (next_is c aR cR aD cD (n + z) b f _ (H.factsW (mt32 (mt8 (mt1 (mt1 (mt1 mh)))))) MM.out (H.cal (mt32 (mt8 (mt1 (mt1 mh))))) (by omega) H2.out).mono ?_)
  rintro e w6 ⟨rfl, hb⟩
  replace H := H.below hb
  clear hb
  have cc0 := H.cell (w.heap.size + 1) 0 (.bool (c.o 0)) mh
  have cc1 := H.cell (w.heap.size + 1) 1 (.bool (c.o 1)) (mt1 mh)
  have cc2 := H.cell (w.heap.size + 1) 2 (.bool (c.o 2)) (mt1 (mt1 mh))
  have cc3 := H.cell (w.heap.size + 1) 3 (.bool (c.o 3)) (mt1 (mt1 (mt1 mh)))
  have cc4 := H.cell (w.heap.size + 1) 4 (.bool (c.o 4)) (mt1 (mt1 (mt1 (mt1 mh))))
  have cc5 := H.cell (w.heap.size + 1) 5 (.bool (c.o 5)) (mt1 (mt1 (mt1 (mt1 (mt1 mh)))))
  have cc6 := H.cell (w.heap.size + 1) 6 (.bool (c.o 6)) (mt1 (mt1 (mt1 (mt1 (mt1 (mt1 mh))))))
  have cc7 := H.cell (w.heap.size + 1) 7 (.slice aR c.nr cR) (mt1 (mt1 (mt1 (mt1 (mt1 (mt1 (mt1 mh)))))))
  have cc8 := H.cell (w.heap.size + 1) 8 (.slice aD c.nd cD) (mt8 mh)
  have lc := H.lt (w.heap.size + 1) 0 (.bool (c.o 0)) mh
  go_wp2_with fail
  clear cc0 cc1 cc2 cc3 cc4 cc5 cc6 cc7 cc8 lc
  (with_reducible refine (prev_is c aR cR aD cD n p 0 _ (H.factsW (mt32 (mt8 (mt1 (mt1 (mt1 mh)))))) MM.out (H.cal (mt32 (mt8 (mt1 (mt1 mh))))) (by omega) H3.out).mono ?_)
  rintro e w7 ⟨rfl, hb⟩
  replace H := H.below hb
  clear hb
  have cc0 := H.cell (w.heap.size + 1) 0 (.bool (c.o 0)) mh
  have cc1 := H.cell (w.heap.size + 1) 1 (.bool (c.o 1)) (mt1 mh)
  have cc2 := H.cell (w.heap.size + 1) 2 (.bool (c.o 2)) (mt1 (mt1 mh))
  have cc3 := H.cell (w.heap.size + 1) 3 (.bool (c.o 3)) (mt1 (mt1 (mt1 mh)))
  have cc4 := H.cell (w.heap.size + 1) 4 (.bool (c.o 4)) (mt1 (mt1 (mt1 (mt1 mh))))
  have cc5 := H.cell (w.heap.size + 1) 5 (.bool (c.o 5)) (mt1 (mt1 (mt1 (mt1 (mt1 mh)))))
  have cc6 := H.cell (w.heap.size + 1) 6 (.bool (c.o 6)) (mt1 (mt1 (mt1 (mt1 (mt1 (mt1 mh))))))
  have cc7 := H.cell (w.heap.size + 1) 7 (.slice aR c.nr cR) (mt1 (mt1 (mt1 (mt1 (mt1 (mt1 (mt1 mh)))))))
  have cc8 := H.cell (w.heap.size + 1) 8 (.slice aD c.nd cD) (mt8 mh)
  have lc := H.lt (w.heap.size + 1) 0 (.bool (c.o 0)) mh
  go_wp2_with fail
  clear cc0 cc1 cc2 cc3 cc4 cc5 cc6 cc7 cc8 lc
  (with_reducible refine (prev_is c aR cR aD cD (n + z) q 0 _ (H.factsW (mt32 (mt8 (mt1 (mt1 (mt1 mh)))))) MM.out (H.cal (mt32 (mt8 (mt1 (mt1 mh))))) (by omega) H4.out).mono ?_)
  rintro e w8 ⟨rfl, hb⟩
  replace H := H.below hb
  clear hb
  have cc0 := H.cell (w.heap.size + 1) 0 (.bool (c.o 0)) mh
  have cc1 := H.cell (w.heap.size + 1) 1 (.bool (c.o 1)) (mt1 mh)
  have cc2 := H.cell (w.heap.size + 1) 2 (.bool (c.o 2)) (mt1 (mt1 mh))
  have cc3 := H.cell (w.heap.size + 1) 3 (.bool (c.o 3)) (mt1 (mt1 (mt1 mh)))
  have cc4 := H.cell (w.heap.size + 1) 4 (.bool (c.o 4)) (mt1 (mt1 (mt1 (mt1 mh))))
  have cc5 := H.cell (w.heap.size + 1) 5 (.bool (c.o 5)) (mt1 (mt1 (mt1 (mt1 (mt1 mh)))))
  have cc6 := H.cell (w.heap.size + 1) 6 (.bool (c.o 6)) (mt1 (mt1 (mt1 (mt1 (mt1 (mt1 mh))))))
  have cc7 := H.cell (w.heap.size + 1) 7 (.slice aR c.nr cR) (mt1 (mt1 (mt1 (mt1 (mt1 (mt1 (mt1 mh)))))))
  have cc8 := H.cell (w.heap.size + 1) 8 (.slice aD c.nd cD) (mt8 mh)
  have lc := H.lt (w.heap.size + 1) 0 (.bool (c.o 0)) mh
  repeat' (first | simp only [List.append_eq, List.cons_append, List.nil_append] | go_values | go_skip | go_guarded | go_step | go_upon)
  clear cc0 cc1 cc2 cc3 cc4 cc5 cc6 cc7 cc8 lc
  (with_reducible refine (to_is14 c aR cR aD cD n (k % 5) 0 i _ (H.factsW (mt32 (mt8 (mt1 (mt1 (mt1 mh)))))) MM.out (H.cal (mt32 (mt8 (mt1 (mt1 mh))))) (by omega) H5.out).mono ?_)
  rintro e w9 ⟨rfl, hb⟩
  replace H := H.below hb
  clear hb
  repeat' (first | simp only [List.append_eq, List.cons_append, List.nil_append] | go_values | go_skip | go_guarded | go_step | go_upon)
  go_ret
  exact ⟨rfl, H.old⟩

set_option maxHeartbeats 8000000 in
set_option maxRecDepth 100000 in
theorem rorises_BAt (c : Ca) (aR : Option Addr) (cR : Nat) (aD : Option Addr) (cD : Nat) (n z k a b p q x f g h : Int) (w : World) (hL : FactsW w) (hCc : CalAt w c aR cR aD cD) (bz : 0 ≤ z ∧ z < 256) (bk : 0 ≤ k ∧ k < 256) (hf : decide (c.nr ≤ 12 ∧ c.nd ≤ 60) = true) (hS : c.Small) (hM : c.May) (hd : decide (1 ≤ n ∧ n ≤ 3652059) = true) (nb : 1 ≤ n ∧ n ≤ 3652059) (hr : n + z ≤ 3652059) (h1 : StepIs c 1 n a 0) (h2 : StepIs c 1 (n + z) b f) (h3 : StepIs c (-1) n p g) (h4 : StepIs c (-1) (n + z) q h) (h5 : ToIs c n (k % 5) x 0) (kf : (f == 0) = false) (kg : (g == 0) = false) (h6 : ToIs c x (k % 5) x 0) (bx : -9223372036854775808 ≤ x ∧ x < 9223372036854775808) :
    Calls Tryd.prog 6 #[.agg #[.bool (c.o 0), .bool (c.o 1), .bool (c.o 2), .bool (c.o 3), .bool (c.o 4), .bool (c.o 5), .bool (c.o 6), .slice aR c.nr cR, .slice aD c.nd cD, .int .i64 n, .int .u8 z, .int .u8 k]] w fun e w' => e = .returned (.bool true) ∧ Below w.heap.size w w' := by
  have H := ((Held.start w).add (f := factsWF) hL).add (f := calF c aR cR aD cD) hCc
  clear hL hCc
  have t0 : decide (n + z > 3652059) = false := decide_eq_false (by omega)
  have zf : (f != 0) = true := by simpa using kf
  have zg : (g != 0) = true := by simpa using kg
  have HF := Lib.hid hf
  have HZ := Lib.hid hS
  have MM := Lib.hid hM
  have HD := Lib.hid hd
  have H1 := Lib.hid h1
  have H2 := Lib.hid h2
  have H3 := Lib.hid h3
  have H4 := Lib.hid h4
  have H5 := Lib.hid h5
  have H6 := Lib.hid h6
  clear hf hS hM hd h1 h2 h3 h4 h5 h6
  go_enter Tryd.func6, Tryd.ntmps6
  go_wp2_with fail
  replace H := ((H.box_12 (w.heap.size) (.bool (c.o 0)) (.bool (c.o 1)) (.bool (c.o 2)) (.bool (c.o 3)) (.bool (c.o 4)) (.bool (c.o 5)) (.bool (c.o 6)) (.slice aR c.nr cR) (.slice aD c.nd cD) (.int .i64 n) (.int .u8 z) (.int .u8 k) 50 rfl).box_9 (w.heap.size + 1) (.bool (c.o 0)) (.bool (c.o 1)) (.bool (c.o 2)) (.bool (c.o 3)) (.bool (c.o 4)) (.bool (c.o 5)) (.bool (c.o 6)) (.slice aR c.nr cR) (.slice aD c.nd cD) 26 (by simp))
  (with_reducible refine (roshown_any _ (H.factsW (mt32 (mt8 (mt1 (mt1 (mt1 mh))))))).mono ?_)
  rintro e w1 ⟨rfl, hb⟩
  replace H := H.below hb
  clear hb
  have cc0 := H.cell (w.heap.size + 1) 0 (.bool (c.o 0)) mh
  have cc1 := H.cell (w.heap.size + 1) 1 (.bool (c.o 1)) (mt1 mh)
  have cc2 := H.cell (w.heap.size + 1) 2 (.bool (c.o 2)) (mt1 (mt1 mh))
  have cc3 := H.cell (w.heap.size + 1) 3 (.bool (c.o 3)) (mt1 (mt1 (mt1 mh)))
  have cc4 := H.cell (w.heap.size + 1) 4 (.bool (c.o 4)) (mt1 (mt1 (mt1 (mt1 mh))))
  have cc5 := H.cell (w.heap.size + 1) 5 (.bool (c.o 5)) (mt1 (mt1 (mt1 (mt1 (mt1 mh)))))
  have cc6 := H.cell (w.heap.size + 1) 6 (.bool (c.o 6)) (mt1 (mt1 (mt1 (mt1 (mt1 (mt1 mh))))))
  have cc7 := H.cell (w.heap.size + 1) 7 (.slice aR c.nr cR) (mt1 (mt1 (mt1 (mt1 (mt1 (mt1 (mt1 mh)))))))
  have cc8 := H.cell (w.heap.size + 1) 8 (.slice aD c.nd cD) (mt8 mh)
  have lc := H.lt (w.heap.size + 1) 0 (.bool (c.o 0)) mh
  go_wp2_with fail
  clear cc0 cc1 cc2 cc3 cc4 cc5 cc6 cc7 cc8 lc
  (with_reducible refine (few_any c aR cR aD cD true _ HF.out).mono ?_)
  rintro e w2 ⟨rfl, hb⟩
  replace H := H.below hb
  clear hb
  have cc0 := H.cell (w.heap.size + 1) 0 (.bool (c.o 0)) mh
  have cc1 := H.cell (w.heap.size + 1) 1 (.bool (c.o 1)) (mt1 mh)
  have cc2 := H.cell (w.heap.size + 1) 2 (.bool (c.o 2)) (mt1 (mt1 mh))
  have cc3 := H.cell (w.heap.size + 1) 3 (.bool (c.o 3)) (mt1 (mt1 (mt1 mh)))
  have cc4 := H.cell (w.heap.size + 1) 4 (.bool (c.o 4)) (mt1 (mt1 (mt1 (mt1 mh))))
  have cc5 := H.cell (w.heap.size + 1) 5 (.bool (c.o 5)) (mt1 (mt1 (mt1 (mt1 (mt1 mh)))))
  have cc6 := H.cell (w.heap.size + 1) 6 (.bool (c.o 6)) (mt1 (mt1 (mt1 (mt1 (mt1 (mt1 mh))))))
  have cc7 := H.cell (w.heap.size + 1) 7 (.slice aR c.nr cR) (mt1 (mt1 (mt1 (mt1 (mt1 (mt1 (mt1 mh)))))))
  have cc8 := H.cell (w.heap.size + 1) 8 (.slice aD c.nd cD) (mt8 mh)
  have lc := H.lt (w.heap.size + 1) 0 (.bool (c.o 0)) mh
  go_wp2_with fail
  clear cc0 cc1 cc2 cc3 cc4 cc5 cc6 cc7 cc8 lc
  (with_reducible refine (rcmay_any c aR cR aD cD true _ HZ.out (H.cal (mt32 (mt8 (mt1 (mt1 mh))))) ⟨fun _ => MM.out, fun _ => rfl⟩).mono ?_)
  rintro e w3 ⟨rfl, hb⟩
  replace H := H.below hb
  clear hb
  have cc0 := H.cell (w.heap.size + 1) 0 (.bool (c.o 0)) mh
  have cc1 := H.cell (w.heap.size + 1) 1 (.bool (c.o 1)) (mt1 mh)
  have cc2 := H.cell (w.heap.size + 1) 2 (.bool (c.o 2)) (mt1 (mt1 mh))
  have cc3 := H.cell (w.heap.size + 1) 3 (.bool (c.o 3)) (mt1 (mt1 (mt1 mh)))
  have cc4 := H.cell (w.heap.size + 1) 4 (.bool (c.o 4)) (mt1 (mt1 (mt1 (mt1 mh))))
  have cc5 := H.cell (w.heap.size + 1) 5 (.bool (c.o 5)) (mt1 (mt1 (mt1 (mt1 (mt1 mh)))))
  have cc6 := H.cell (w.heap.size + 1) 6 (.bool (c.o 6)) (mt1 (mt1 (mt1 (mt1 (mt1 (mt1 mh))))))
  have cc7 := H.cell (w.heap.size + 1) 7 (.slice aR c.nr cR) (mt1 (mt1 (mt1 (mt1 (mt1 (mt1 (mt1 mh)))))))
  have cc8 := H.cell (w.heap.size + 1) 8 (.slice aD c.nd cD) (mt8 mh)
  have lc := H.lt (w.heap.size + 1) 0 (.bool (c.o 0)) mh
  go_wp2_with fail
  clear cc0 cc1 cc2 cc3 cc4 cc5 cc6 cc7 cc8 lc
  (with_reducible refine (Calls.same (rday13_is n true _ HD.out)).mono ?_)
  rintro e w4 ⟨rfl, hb⟩
  replace H := H.below hb
  clear hb
  have cc0 := H.cell (w.heap.size + 1) 0 (.bool (c.o 0)) mh
  have cc1 := H.cell (w.heap.size + 1) 1 (.bool (c.o 1)) (mt1 mh)
  have cc2 := H.cell (w.heap.size + 1) 2 (.bool (c.o 2)) (mt1 (mt1 mh))
  have cc3 := H.cell (w.heap.size + 1) 3 (.bool (c.o 3)) (mt1 (mt1 (mt1 mh)))
  have cc4 := H.cell (w.heap.size + 1) 4 (.bool (c.o 4)) (mt1 (mt1 (mt1 (mt1 mh))))
  have cc5 := H.cell (w.heap.size + 1) 5 (.bool (c.o 5)) (mt1 (mt1 (mt1 (mt1 (mt1 mh)))))
  have cc6 := H.cell (w.heap.size + 1) 6 (.bool (c.o 6)) (mt1 (mt1 (mt1 (mt1 (mt1 (mt1 mh))))))
  have cc7 := H.cell (w.heap.size + 1) 7 (.slice aR c.nr cR) (mt1 (mt1 (mt1 (mt1 (mt1 (mt1 (mt1 mh)))))))
  have cc8 := H.cell (w.heap.size + 1) 8 (.slice aD c.nd cD) (mt8 mh)
  have lc := H.lt (w.heap.size + 1) 0 (.bool (c.o 0)) mh
  go_wp2_with fail
  clear cc0 cc1 cc2 cc3 cc4 cc5 cc6 cc7 cc8 lc
  (with_reducible refine (next_is c aR cR aD cD n a 0 _ (H.factsW (mt32 (mt8 (mt1 (mt1 (mt1 mh)))))) MM.out (H.cal (mt32 (mt8 (mt1 (mt1 mh))))) (by omega) H1.out).mono ?_)
  rintro e w5 ⟨rfl, hb⟩
  replace H := H.below hb
  clear hb
  have cc0 := H.cell (w.heap.size + 1) 0 (.bool (c.o 0)) mh
  have cc1 := H.cell (w.heap.size + 1) 1 (.bool (c.o 1)) (mt1 mh)
  have cc2 := H.cell (w.heap.size + 1) 2 (.bool (c.o 2)) (mt1 (mt1 mh))
  have cc3 := H.cell (w.heap.size + 1) 3 (.bool (c.o 3)) (mt1 (mt1 (mt1 mh)))
  have cc4 := H.cell (w.heap.size + 1) 4 (.bool (c.o 4)) (mt1 (mt1 (mt1 (mt1 mh))))
  have cc5 := H.cell (w.heap.size + 1) 5 (.bool (c.o 5)) (mt1 (mt1 (mt1 (mt1 (mt1 mh)))))
  have cc6 := H.cell (w.heap.size + 1) 6 (.bool (c.o 6)) (mt1 (mt1 (mt1 (mt1 (mt1 (mt1 mh))))))
  have cc7 := H.cell (w.heap.size + 1) 7 (.slice aR c.nr cR) (mt1 (mt1 (mt1 (mt1 (mt1 (mt1 (mt1 mh)))))))
  have cc8 := H.cell (w.heap.size + 1) 8 (.slice aD c.nd cD) (mt8 mh)
  have lc := H.lt (w.heap.size + 1) 0 (.bool (c.o 0)) mh
  go_wp2_with fail
  clear cc0 cc1 cc2 cc3 cc4 cc5 cc6 cc7 cc8 lc
  (with_reducible refine (next_is c aR cR aD cD (n + z) b f _ (H.factsW (mt32 (mt8 (mt1 (mt1 (mt1 mh)))))) MM.out (H.cal (mt32 (mt8 (mt1 (mt1 mh))))) (by omega) H2.out).mono ?_)
  rintro e w6 ⟨rfl, hb⟩
  replace H := H.below hb
  clear hb
  have cc0 := H.cell (w.heap.size + 1) 0 (.bool (c.o 0)) mh
  have cc1 := H.cell (w.heap.size + 1) 1 (.bool (c.o 1)) (mt1 mh)
  have cc2 := H.cell (w.heap.size + 1) 2 (.bool (c.o 2)) (mt1 (mt1 mh))
  have cc3 := H.cell (w.heap.size + 1) 3 (.bool (c.o 3)) (mt1 (mt1 (mt1 mh)))
  have cc4 := H.cell (w.heap.size + 1) 4 (.bool (c.o 4)) (mt1 (mt1 (mt1 (mt1 mh))))
  have cc5 := H.cell (w.heap.size + 1) 5 (.bool (c.o 5)) (mt1 (mt1 (mt1 (mt1 (mt1 mh)))))
  have cc6 := H.cell (w.heap.size + 1) 6 (.bool (c.o 6)) (mt1 (mt1 (mt1 (mt1 (mt1 (mt1 mh))))))
  have cc7 := H.cell (w.heap.size + 1) 7 (.slice aR c.nr cR) (mt1 (mt1 (mt1 (mt1 (mt1 (mt1 (mt1 mh)))))))
  have cc8 := H.cell (w.heap.size + 1) 8 (.slice aD c.nd cD) (mt8 mh)
  have lc := H.lt (w.heap.size + 1) 0 (.bool (c.o 0)) mh
  go_wp2_with fail
  clear cc0 cc1 cc2 cc3 cc4 cc5 cc6 cc7 cc8 lc
  (with_reducible refine (prev_is c aR cR aD cD n p g _ (H.factsW (mt32 (mt8 (mt1 (mt1 (mt1 mh)))))) MM.out (H.cal (mt32 (mt8 (mt1 (mt1 mh))))) (by omega) H3.out).mono ?_)
  rintro e w7 ⟨rfl, hb⟩
  replace H := H.below hb
  clear hb
  have cc0 := H.cell (w.heap.size + 1) 0 (.bool (c.o 0)) mh
  have cc1 := H.cell (w.heap.size + 1) 1 (.bool (c.o 1)) (mt1 mh)
  have cc2 := H.cell (w.heap.size + 1) 2 (.bool (c.o 2)) (mt1 (mt1 mh))
  have cc3 := H.cell (w.heap.size + 1) 3 (.bool (c.o 3)) (mt1 (mt1 (mt1 mh)))
  have cc4 := H.cell (w.heap.size + 1) 4 (.bool (c.o 4)) (mt1 (mt1 (mt1 (mt1 mh))))
  have cc5 := H.cell (w.heap.size + 1) 5 (.bool (c.o 5)) (mt1 (mt1 (mt1 (mt1 (mt1 mh)))))
  have cc6 := H.cell (w.heap.size + 1) 6 (.bool (c.o 6)) (mt1 (mt1 (mt1 (mt1 (mt1 (mt1 mh))))))
  have cc7 := H.cell (w.heap.size + 1) 7 (.slice aR c.nr cR) (mt1 (mt1 (mt1 (mt1 (mt1 (mt1 (mt1 mh)))))))
  have cc8 := H.cell (w.heap.size + 1) 8 (.slice aD c.nd cD) (mt8 mh)
  have lc := H.lt (w.heap.size + 1) 0 (.bool (c.o 0)) mh
  go_wp2_with fail
  clear cc0 cc1 cc2 cc3 cc4 cc5 cc6 cc7 cc8 lc
  (with_reducible refine (prev_is c aR cR aD cD (n + z) q h _ (H.factsW (mt32 (mt8 (mt1 (mt1 (mt1 mh)))))) MM.out (H.cal (mt32 (mt8 (mt1 (mt1 mh))))) (by omega) H4.out).mono ?_)
  rintro e w8 ⟨rfl, hb⟩
  replace H := H.below hb
  clear hb
  have cc0 := H.cell (w.heap.size + 1) 0 (.bool (c.o 0)) mh
  have cc1 := H.cell (w.heap.size + 1) 1 (.bool (c.o 1)) (mt1 mh)
  have cc2 := H.cell (w.heap.size + 1) 2 (.bool (c.o 2)) (mt1 (mt1 mh))
  have cc3 := H.cell (w.heap.size + 1) 3 (.bool (c.o 3)) (mt1 (mt1 (mt1 mh)))
  have cc4 := H.cell (w.heap.size + 1) 4 (.bool (c.o 4)) (mt1 (mt1 (mt1 (mt1 mh))))
  have cc5 := H.cell (w.heap.size + 1) 5 (.bool (c.o 5)) (mt1 (mt1 (mt1 (mt1 (mt1 mh)))))
  have cc6 := H.cell (w.heap.size + 1) 6 (.bool (c.o 6)) (mt1 (mt1 (mt1 (mt1 (mt1 (mt1 mh))))))
  have cc7 := H.cell (w.heap.size + 1) 7 (.slice aR c.nr cR) (mt1 (mt1 (mt1 (mt1 (mt1 (mt1 (mt1 mh)))))))
  have cc8 := H.cell (w.heap.size + 1) 8 (.slice aD c.nd cD) (mt8 mh)
  have lc := H.lt (w.heap.size + 1) 0 (.bool (c.o 0)) mh
  repeat' (first | simp only [List.append_eq, List.cons_append, List.nil_append] | go_values | go_skip | go_guarded | go_step | go_upon)
  clear cc0 cc1 cc2 cc3 cc4 cc5 cc6 cc7 cc8 lc
  (with_reducible refine (to_is14 c aR cR aD cD n (k % 5) x 0 _ (H.factsW (mt32 (mt8 (mt1 (mt1 (mt1 mh)))))) MM.out (H.cal (mt32 (mt8 (mt1 (mt1 mh))))) (by omega) H5.out).mono ?_)
  rintro e w9 ⟨rfl, hb⟩
  replace H := H.below hb
  clear hb
  have cc0 := H.cell (w.heap.size + 1) 0 (.bool (c.o 0)) mh
  have cc1 := H.cell (w.heap.size + 1) 1 (.bool (c.o 1)) (mt1 mh)
  have cc2 := H.cell (w.heap.size + 1) 2 (.bool (c.o 2)) (mt1 (mt1 mh))
  have cc3 := H.cell (w.heap.size + 1) 3 (.bool (c.o 3)) (mt1 (mt1 (mt1 mh)))
  have cc4 := H.cell (w.heap.size + 1) 4 (.bool (c.o 4)) (mt1 (mt1 (mt1 (mt1 mh))))
  have cc5 := H.cell (w.heap.size + 1) 5 (.bool (c.o 5)) (mt1 (mt1 (mt1 (mt1 (mt1 mh)))))
  have cc6 := H.cell (w.heap.size + 1) 6 (.bool (c.o 6)) (mt1 (mt1 (mt1 (mt1 (mt1 (mt1 mh))))))
  have cc7 := H.cell (w.heap.size + 1) 7 (.slice aR c.nr cR) (mt1 (mt1 (mt1 (mt1 (mt1 (mt1 (mt1 mh)))))))
  have cc8 := H.cell (w.heap.size + 1) 8 (.slice aD c.nd cD) (mt8 mh)
  have lc := H.lt (w.heap.size + 1) 0 (.bool (c.o 0)) mh
  repeat' (first | simp only [List.append_eq, List.cons_append, List.nil_append] | go_values | go_skip | go_guarded | go_step | go_upon)
  clear cc0 cc1 cc2 cc3 cc4 cc5 cc6 cc7 cc8 lc
  (with_reducible refine (to_is14 c aR cR aD cD x (k % 5) x 0 _ (H.factsW (mt32 (mt8 (mt1 (mt1 (mt1 mh)))))) MM.out (H.cal (mt32 (mt8 (mt1 (mt1 mh))))) bx H6.out).mono ?_)
  rintro e w10 ⟨rfl, hb⟩
  replace H := H.below hb
  clear hb
  repeat' (first | simp only [List.append_eq, List.cons_append, List.nil_append] | go_values | go_skip | go_guarded | go_step | go_upon)
  go_ret
  exact ⟨rfl, H.old⟩

set_option maxHeartbeats 8000000 in
set_option maxRecDepth 100000 in
theorem rorises_BAf (c : Ca) (aR : Option Addr) (cR : Nat) (aD : Option Addr) (cD : Nat) (n z k a b p q i f g h : Int) (w : World) (hL : FactsW w) (hCc : CalAt w c aR cR aD cD) (bz : 0 ≤ z ∧ z < 256) (bk : 0 ≤ k ∧ k < 256) (hf : decide (c.nr ≤ 12 ∧ c.nd ≤ 60) = true) (hS : c.Small) (hM : c.May) (hd : decide (1 ≤ n ∧ n ≤ 3652059) = true) (nb : 1 ≤ n ∧ n ≤ 3652059) (hr : n + z ≤ 3652059) (h1 : StepIs c 1 n a 0) (h2 : StepIs c 1 (n + z) b f) (h3 : StepIs c (-1) n p g) (h4 : StepIs c (-1) (n + z) q h) (h5 : ToIs c n (k % 5) 0 i) (kf : (f == 0) = false) (kg : (g == 0) = false) (ki : (i == 0) = false) :
    Calls Tryd.prog 6 #[.agg #[.bool (c.o 0), .bool (c.o 1), .bool (c.o 2), .bool (c.o 3), .bool (c.o 4), .bool (c.o 5), .bool (c.o 6), .slice aR c.nr cR, .slice aD c.nd cD, .int .i64 n, .int .u8 z, .int .u8 k]] w fun e w' => e = .returned (.bool true) ∧ Below w.heap.size w w' := by
  have H := ((Held.start w).add (f := factsWF) hL).add (f := calF c aR cR aD cD) hCc
  clear hL hCc
  have t0 : decide (n + z > 3652059) = false := decide_eq_false (by omega)
  have zf : (f != 0) = true := by simpa using kf
  have zg : (g != 0) = true := by simpa using kg
  have zi : (i != 0) = true := by simpa using ki
  have HF := Lib.hid hf
  have HZ := Lib.hid hS
  have MM := Lib.hid hM
  have HD := Lib.hid hd
  have H1 := Lib.hid h1
  have H2 := Lib.hid h2
  have H3 := Lib.hid h3
  have H4 := Lib.hid h4
  have H5 := Lib.hid h5
  clear hf hS hM hd h1 h2 h3 h4 h5
  go_enter Tryd.func6, Tryd.ntmps6
  go_wp2_with fail
  replace H := ((H.box_12 (w.heap.size) (.bool (c.o 0)) (.bool (c.o 1)) (.bool (c.o 2)) (.bool (c.o 3)) (.bool (c.o 4)) (.bool (c.o 5)) (.bool (c.o 6)) (.slice aR c.nr cR) (.slice aD c.nd cD) (.int .i64 n) (.int .u8 z) (.int .u8 k) 50 rfl).box_9 (w.heap.size + 1) (.bool (c.o 0)) (.bool (c.o 1)) (.bool (c.o 2)) (.bool (c.o 3)) (.bool (c.o 4)) (.bool (c.o 5)) (.bool (c.o 6)) (.slice aR c.nr cR) (.slice aD c.nd cD) 26 (by simp))
  (with_reducible refine (roshown_any _ (H.factsW (mt32 (mt8 (mt1 (mt1 (mt1 mh))))))).mono ?_)
  rintro e w1 ⟨rfl, hb⟩
  replace H := H.below hb
  clear hb
  have cc0 := H.cell (w.heap.size + 1) 0 (.bool (c.o 0)) mh
  have cc1 := H.cell (w.heap.size + 1) 1 (.bool (c.o 1)) (mt1 mh)
  have cc2 := H.cell (w.heap.size + 1) 2 (.bool (c.o 2)) (mt1 (mt1 mh))
  have cc3 := H.cell (w.heap.size + 1) 3 (.bool (c.o 3)) (mt1 (mt1 (mt1 mh)))
  have cc4 := H.cell (w.heap.size + 1) 4 (.bool (c.o 4)) (mt1 (mt1 (mt1 (mt1 mh))))
  have cc5 := H.cell (w.heap.size + 1) 5 (.bool (c.o 5)) (mt1 (mt1 (mt1 (mt1 (mt1 mh)))))
  have cc6 := H.cell (w.heap.size + 1) 6 (.bool (c.o 6)) (mt1 (mt1 (mt1 (mt1 (mt1 (mt1 mh))))))
  have cc7 := H.cell (w.heap.size + 1) 7 (.slice aR c.nr cR) (mt1 (mt1 (mt1 (mt1 (mt1 (mt1 (mt1 mh)))))))
  have cc8 := H.cell (w.heap.size + 1) 8 (.slice aD c.nd cD) (mt8 mh)
  have lc := H.lt (w.heap.size + 1) 0 (.bool (c.o 0)) mh
  go_wp2_with fail
  clear cc0 cc1 cc2 cc3 cc4 cc5 cc6 cc7 cc8 lc
  (with_reducible refine (few_any c aR cR aD cD true _ HF.out).mono ?_)
  rintro e w2 ⟨rfl, hb⟩
  replace H := H.below hb
  clear hb
  have cc0 := H.cell (w.heap.size + 1) 0 (.bool (c.o 0)) mh
  have cc1 := H.cell (w.heap.size + 1) 1 (.bool (c.o 1)) (mt1 mh)
  have cc2 := H.cell (w.heap.size + 1) 2 (.bool (c.o 2)) (mt1 (mt1 mh))
  have cc3 := H.cell (w.heap.size + 1) 3 (.bool (c.o 3)) (mt1 (mt1 (mt1 mh)))
  have cc4 := H.cell (w.heap.size + 1) 4 (.bool (c.o 4)) (mt1 (mt1 (mt1 (mt1 mh))))
  have cc5 := H.cell (w.heap.size + 1) 5 (.bool (c.o 5)) (mt1 (mt1 (mt1 (mt1 (mt1 mh)))))
  have cc6 := H.cell (w.heap.size + 1) 6 (.bool (c.o 6)) (mt1 (mt1 (mt1 (mt1 (mt1 (mt1 mh))))))
  have cc7 := H.cell (w.heap.size + 1) 7 (.slice aR c.nr cR) (mt1 (mt1 (mt1 (mt1 (mt1 (mt1 (mt1 mh)))))))
  have cc8 := H.cell (w.heap.size + 1) 8 (.slice aD c.nd cD) (mt8 mh)
  have lc := H.lt (w.heap.size + 1) 0 (.bool (c.o 0)) mh
  go_wp2_with fail
  clear cc0 cc1 cc2 cc3 cc4 cc5 cc6 cc7 cc8 lc
  (with_reducible refine (rcmay_any c aR cR aD cD true _ HZ.out (H.cal (mt32 (mt8 (mt1 (mt1 mh))))) ⟨fun _ => MM.out, fun _ => rfl⟩).mono ?_)
  rintro e w3 ⟨rfl, hb⟩
  replace H := H.below hb
  clear hb
  have cc0 := H.cell (w.heap.size + 1) 0 (.bool (c.o 0)) mh
  have cc1 := H.cell (w.heap.size + 1) 1 (.bool (c.o 1)) (mt1 mh)
  have cc2 := H.cell (w.heap.size + 1) 2 (.bool (c.o 2)) (mt1 (mt1 mh))
  have cc3 := H.cell (w.heap.size + 1) 3 (.bool (c.o 3)) (mt1 (mt1 (mt1 mh)))
  have cc4 := H.cell (w.heap.size + 1) 4 (.bool (c.o 4)) (mt1 (mt1 (mt1 (mt1 mh))))
  have cc5 := H.cell (w.heap.size + 1) 5 (.bool (c.o 5)) (mt1 (mt1 (mt1 (mt1 (mt1 mh)))))
  have cc6 := H.cell (w.heap.size + 1) 6 (.bool (c.o 6)) (mt1 (mt1 (mt1 (mt1 (mt1 (mt1 mh))))))
  have cc7 := H.cell (w.heap.size + 1) 7 (.slice aR c.nr cR) (mt1 (mt1 (mt1 (mt1 (mt1 (mt1 (mt1 mh)))))))
  have cc8 := H.cell (w.heap.size + 1) 8 (.slice aD c.nd cD) (mt8 mh)
  have lc := H.lt (w.heap.size + 1) 0 (.bool (c.o 0)) mh
  go_wp2_with fail
  clear cc0 cc1 cc2 cc3 cc4 cc5 cc6 cc7 cc8 lc
  (with_reducible refine (Calls.same (rday13_is n true _ HD.out)).mono ?_)
  rintro e w4 ⟨rfl, hb⟩
  replace H := H.below hb
  clear hb
  have cc0 := H.cell (w.heap.size + 1) 0 (.bool (c.o 0)) mh
  have cc1 := H.cell (w.heap.size + 1) 1 (.bool (c.o 1)) (mt1 mh)
  have cc2 := H.cell (w.heap.size + 1) 2 (.bool (c.o 2)) (mt1 (mt1 mh))
  have cc3 := H.cell (w.heap.size + 1) 3 (.bool (c.o 3)) (mt1 (mt1 (mt1 mh)))
  have cc4 := H.cell (w.heap.size + 1) 4 (.bool (c.o 4)) (mt1 (mt1 (mt1 (mt1 mh))))
  have cc5 := H.cell (w.heap.size + 1) 5 (.bool (c.o 5)) (mt1 (mt1 (mt1 (mt1 (mt1 mh)))))
  have cc6 := H.cell (w.heap.size + 1) 6 (.bool (c.o 6)) (mt1 (mt1 (mt1 (mt1 (mt1 (mt1 mh))))))
  have cc7 := H.cell (w.heap.size + 1) 7 (.slice aR c.nr cR) (mt1 (mt1 (mt1 (mt1 (mt1 (mt1 (mt1 mh)))))))
  have cc8 := H.cell (w.heap.size + 1) 8 (.slice aD c.nd cD) (mt8 mh)
  have lc := H.lt (w.heap.size + 1) 0 (.bool (c.o 0)) mh
  go_wp2_with fail
  clear cc0 cc1 cc2 cc3 cc4 cc5 cc6 cc7 cc8 lc
  (with_reducible refine (next_is c aR cR aD cD n a 0 _ (H.factsW (mt32 (mt8 (mt1 (mt1 (mt1 mh)))))) MM.out (H.cal (mt32 (mt8 (mt1 (mt1 mh))))) (by omega) H1.out).mono ?_)
  rintro e w5 ⟨rfl, hb⟩
  replace H := H.below hb
  clear hb
  have cc0 := H.cell (w.heap.size + 1) 0 (.bool (c.o 0)) mh
  have cc1 := H.cell (w.heap.size + 1) 1 (.bool (c.o 1)) (mt1 mh)
  have cc2 := H.cell (w.heap.size + 1) 2 (.bool (c.o 2)) (mt1 (mt1 mh))
  have cc3 := H.cell (w.heap.size + 1) 3 (.bool (c.o 3)) (mt1 (mt1 (mt1 mh)))
  have cc4 := H.cell (w.heap.size + 1) 4 (.bool (c.o 4)) (mt1 (mt1 (mt1 (mt1 mh))))
  have cc5 := H.cell (w.heap.size + 1) 5 (.bool (c.o 5)) (mt1 (mt1 (mt1 (mt1 (mt1 mh)))))
  have cc6 := H.cell (w.heap.size + 1) 6 (.bool (c.o 6)) (mt1 (mt1 (mt1 (mt1 (mt1 (mt1 mh))))))
  have cc7 := H.cell (w.heap.size + 1) 7 (.slice aR c.nr cR) (mt1 (mt1 (mt1 (mt1 (mt1 (mt1 (mt1 mh)))))))
  have cc8 := H.cell (w.heap.size + 1) 8 (.slice aD c.nd cD) (mt8 mh)
  have lc := H.lt (w.heap.size + 1) 0 (.bool (c.o 0)) mh
  go_wp2_with fail
  clear cc0 cc1 cc2 cc3 cc4 cc5 cc6 cc7 cc8 lc
  (with_reducible refine (next_is c aR cR aD cD (n + z) b f _ (H.factsW (mt32 (mt8 (mt1 (mt1 (mt1 mh)))))) MM.out (H.cal (mt32 (mt8 (mt1 (mt1 mh))))) (by omega) H2.out).mono ?_)
  rintro e w6 ⟨rfl, hb⟩
  replace H := H.below hb
  clear hb
  have cc0 := H.cell (w.heap.size + 1) 0 (.bool (c.o 0)) mh
  have cc1 := H.cell (w.heap.size + 1) 1 (.bool (c.o 1)) (mt1 mh)
  have cc2 := H.cell (w.heap.size + 1) 2 (.bool (c.o 2)) (mt1 (mt1 mh))
  have cc3 := H.cell (w.heap.size + 1) 3 (.bool (c.o 3)) (mt1 (mt1 (mt1 mh)))
  have cc4 := H.cell (w.heap.size + 1) 4 (.bool (c.o 4)) (mt1 (mt1 (mt1 (mt1 mh))))
  have cc5 := H.cell (w.heap.size + 1) 5 (.bool (c.o 5)) (mt1 (mt1 (mt1 (mt1 (mt1 mh)))))
  have cc6 := H.cell (w.heap.size + 1) 6 (.bool (c.o 6)) (mt1 (mt1 (mt1 (mt1 (mt1 (mt1 mh))))))
  have cc7 := H.cell (w.heap.size + 1) 7 (.slice aR c.nr cR) (mt1 (mt1 (mt1 (mt1 (mt1 (mt1 (mt1 mh)))))))
  have cc8 := H.cell (w.heap.size + 1) 8 (.slice aD c.nd cD) (mt8 mh)
  have lc := H.lt (w.heap.size + 1) 0 (.bool (c.o 0)) mh
  go_wp2_with fail
  clear cc0 cc1 cc2 cc3 cc4 cc5 cc6 cc7 cc8 lc
  (with_reducible refine (prev_is c aR cR aD cD n p g _ (H.factsW (mt32 (mt8 (mt1 (mt1 (mt1 mh)))))) MM.out (H.cal (mt32 (mt8 (mt1 (mt1 mh))))) (by omega) H3.out).mono ?_)
  rintro e w7 ⟨rfl, hb⟩
  replace H := H.below hb
  clear hb
  have cc0 := H.cell (w.heap.size + 1) 0 (.bool (c.o 0)) mh
  have cc1 := H.cell (w.heap.size + 1) 1 (.bool (c.o 1)) (mt1 mh)
  have cc2 := H.cell (w.heap.size + 1) 2 (.bool (c.o 2)) (mt1 (mt1 mh))
  have cc3 := H.cell (w.heap.size + 1) 3 (.bool (c.o 3)) (mt1 (mt1 (mt1 mh)))
  have cc4 := H.cell (w.heap.size + 1) 4 (.bool (c.o 4)) (mt1 (mt1 (mt1 (mt1 mh))))
  have cc5 := H.cell (w.heap.size + 1) 5 (.bool (c.o 5)) (mt1 (mt1 (mt1 (mt1 (mt1 mh)))))
  have cc6 := H.cell (w.heap.size + 1) 6 (.bool (c.o 6)) (mt1 (mt1 (mt1 (mt1 (mt1 (mt1 mh))))))
  have cc7 := H.cell (w.heap.size + 1) 7 (.slice aR c.nr cR) (mt1 (mt1 (mt1 (mt1 (mt1 (mt1 (mt1 mh)))))))
  have cc8 := H.cell (w.heap.size + 1) 8 (.slice aD c.nd cD) (mt8 mh)
  have lc := H.lt (w.heap.size + 1) 0 (.bool (c.o 0)) mh
  go_wp2_with fail
  clear cc0 cc1 cc2 cc3 cc4 cc5 cc6 cc7 cc8 lc
  (with_reducible refine (prev_is c aR cR aD cD (n + z) q h _ (H.factsW (mt32 (mt8 (mt1 (mt1 (mt1 mh)))))) MM.out (H.cal (mt32 (mt8 (mt1 (mt1 mh))))) (by omega) H4.out).mono ?_)
  rintro e w8 ⟨rfl, hb⟩
  replace H := H.below hb
  clear hb
  have cc0 := H.cell (w.heap.size + 1) 0 (.bool (c.o 0)) mh
  have cc1 := H.cell (w.heap.size + 1) 1 (.bool (c.o 1)) (mt1 mh)
  have cc2 := H.cell (w.heap.size + 1) 2 (.bool (c.o 2)) (mt1 (mt1 mh))
  have cc3 := H.cell (w.heap.size + 1) 3 (.bool (c.o 3)) (mt1 (mt1 (mt1 mh)))
  have cc4 := H.cell (w.heap.size + 1) 4 (.bool (c.o 4)) (mt1 (mt1 (mt1 (mt1 mh))))
  have cc5 := H.cell (w.heap.size + 1) 5 (.bool (c.o 5)) (mt1 (mt1 (mt1 (mt1 (mt1 mh)))))
  have cc6 := H.cell (w.heap.size + 1) 6 (.bool (c.o 6)) (mt1 (mt1 (mt1 (mt1 (mt1 (mt1 mh))))))
  have cc7 := H.cell (w.heap.size + 1) 7 (.slice aR c.nr cR) (mt1 (mt1 (mt1 (mt1 (mt1 (mt1 (mt1 mh)))))))
  have cc8 := H.cell (w.heap.size + 1) 8 (.slice aD c.nd cD) (mt8 mh)
  have lc := H.lt (w.heap.size + 1) 0 (.bool (c.o 0)) mh
  repeat' (first | simp only [List.append_eq, List.cons_append, List.nil_append] | go_values | go_skip | go_guarded | go_step | go_upon)
  clear cc0 cc1 cc2 cc3 cc4 cc5 cc6 cc7 cc8 lc
  (with_reducible refine (to_is14 c aR cR aD cD n (k % 5) 0 i _ (H.factsW (mt32 (mt8 (mt1 (mt1 (mt1 mh)))))) MM.out (H.cal (mt32 (mt8 (mt1 (mt1 mh))))) (by omega) H5.out).mono ?_)
  rintro e w9 ⟨rfl, hb⟩
  replace H := H.below hb
  clear hb
  repeat' (first | simp only [List.append_eq, List.cons_append, List.nil_append] | go_values | go_skip | go_guarded | go_step | go_upon)
  go_ret
  exact ⟨rfl, H.old⟩

set_option maxHeartbeats 8000000 in
set_option maxRecDepth 100000 in
theorem rorises_BBt (c : Ca) (aR : Option Addr) (cR : Nat) (aD : Option Addr) (cD : Nat) (n z k a b p q x f h : Int) (w : World) (hL : FactsW w) (hCc : CalAt w c aR cR aD cD) (bz : 0 ≤ z ∧ z < 256) (bk : 0 ≤ k ∧ k < 256) (hf : decide (c.nr ≤ 12 ∧ c.nd ≤ 60) = true) (hS : c.Small) (hM : c.May) (hd : decide (1 ≤ n ∧ n ≤ 3652059) = true) (nb : 1 ≤ n ∧ n ≤ 3652059) (hr : n + z ≤ 3652059) (h1 : StepIs c 1 n a 0) (h2 : StepIs c 1 (n + z) b f) (h3 : StepIs c (-1) n p 0) (h4 : StepIs c (-1) (n + z) q h) (h5 : ToIs c n (k % 5) x 0) (kf : (f == 0) = false) (kh : (h == 0) = false) (h6 : ToIs c x (k % 5) x 0) (bx : -9223372036854775808 ≤ x ∧ x < 9223372036854775808) :
    Calls Tryd.prog 6 #[.agg #[.bool (c.o 0), .bool (c.o 1), .bool (c.o 2), .bool (c.o 3), .bool (c.o 4), .bool (c.o 5), .bool (c.o 6), .slice aR c.nr cR, .slice aD c.nd cD, .int .i64 n, .int .u8 z, .int .u8 k]] w fun e w' => e = .returned (.bool true) ∧ Below w.heap.size w w' := by
  have H := ((Held.start w).add (f := factsWF) hL).add (f := calF c aR cR aD cD) hCc
  clear hL hCc
  have t0 : decide (n + z > 3652059) = false := decide_eq_false (by omega)
  have zf : (f != 0) = true := by simpa using kf
  have zh : (h != 0) = true := by simpa using kh
  have HF := Lib.hid hf
  have HZ := Lib.hid hS
  have MM := Lib.hid hM
  have HD := Lib.hid hd
  have H1 := Lib.hid h1
  have H2 := Lib.hid h2
  have H3 := Lib.hid h3
  have H4 := Lib.hid h4
  have H5 := Lib.hid h5
  have H6 := Lib.hid h6
  clear hf hS hM hd h1 h2 h3 h4 h5 h6
  go_enter Tryd.func6, Tryd.ntmps6
  go_wp2_with fail
  replace H := ((H.box_12 (w.heap.size) (.bool (c.o 0)) (.bool (c.o 1)) (.bool (c.o 2)) (.bool (c.o 3)) (.bool (c.o 4)) (.bool (c.o 5)) (.bool (c.o 6)) (.slice aR c.nr cR) (.slice aD c.nd cD) (.int .i64 n) (.int .u8 z) (.int .u8 k) 50 rfl).box_9 (w.heap.size + 1) (.bool (c.o 0)) (.bool (c.o 1)) (.bool (c.o 2)) (.bool (c.o 3)) (.bool (c.o 4)) (.bool (c.o 5)) (.bool (c.o 6)) (.slice aR c.nr cR) (.slice aD c.nd cD) 26 (by simp))
  (with_reducible refine (roshown_any _ (H.factsW (mt32 (mt8 (mt1 (mt1 (mt1 mh))))))).mono ?_)
  rintro e w1 ⟨rfl, hb⟩
  replace H := H.below hb
  clear hb
  have cc0 := H.cell (w.heap.size + 1) 0 (.bool (c.o 0)) mh
  have cc1 := H.cell (w.heap.size + 1) 1 (.bool (c.o 1)) (mt1 mh)
  have cc2 := H.cell (w.heap.size + 1) 2 (.bool (c.o 2)) (mt1 (mt1 mh))
  have cc3 := H.cell (w.heap.size + 1) 3 (.bool (c.o 3)) (mt1 (mt1 (mt1 mh)))
  have cc4 := H.cell (w.heap.size + 1) 4 (.bool (c.o 4)) (mt1 (mt1 (mt1 (mt1 mh))))
  have cc5 := H.cell (w.heap.size + 1) 5 (.bool (c.o 5)) (mt1 (mt1 (mt1 (mt1 (mt1 mh)))))
  have cc6 := H.cell (w.heap.size + 1) 6 (.bool (c.o 6)) (mt1 (mt1 (mt1 (mt1 (mt1 (mt1 mh))))))
  have cc7 := H.cell (w.heap.size + 1) 7 (.slice aR c.nr cR) (mt1 (mt1 (mt1 (mt1 (mt1 (mt1 (mt1 mh)))))))
  have cc8 := H.cell (w.heap.size + 1) 8 (.slice aD c.nd cD) (mt8 mh)
  have lc := H.lt (w.heap.size + 1) 0 (.bool (c.o 0)) mh
  go_wp2_with fail
  clear cc0 cc1 cc2 cc3 cc4 cc5 cc6 cc7 cc8 lc
  (with_reducible refine (few_any c aR cR aD cD true _ HF.out).mono ?_)
  rintro e w2 ⟨rfl, hb⟩
  replace H := H.below hb
  clear hb
  have cc0 := H.cell (w.heap.size + 1) 0 (.bool (c.o 0)) mh
  have cc1 := H.cell (w.heap.size + 1) 1 (.bool (c.o 1)) (mt1 mh)
  have cc2 := H.cell (w.heap.size + 1) 2 (.bool (c.o 2)) (mt1 (mt1 mh))
  have cc3 := H.cell (w.heap.size + 1) 3 (.bool (c.o 3)) (mt1 (mt1 (mt1 mh)))
  have cc4 := H.cell (w.heap.size + 1) 4 (.bool (c.o 4)) (mt1 (mt1 (mt1 (mt1 mh))))
  have cc5 := H.cell (w.heap.size + 1) 5 (.bool (c.o 5)) (mt1 (mt1 (mt1 (mt1 (mt1 mh)))))
  have cc6 := H.cell (w.heap.size + 1) 6 (.bool (c.o 6)) (mt1 (mt1 (mt1 (mt1 (mt1 (mt1 mh))))))
  have cc7 := H.cell (w.heap.size + 1) 7 (.slice aR c.nr cR) (mt1 (mt1 (mt1 (mt1 (mt1 (mt1 (mt1 mh)))))))
  have cc8 := H.cell (w.heap.size + 1) 8 (.slice aD c.nd cD) (mt8 mh)
  have lc := H.lt (w.heap.size + 1) 0 (.bool (c.o 0)) mh
  go_wp2_with fail
  clear cc0 cc1 cc2 cc3 cc4 cc5 cc6 cc7 cc8 lc
  (with_reducible refine (rcmay_any c aR cR aD cD true _ HZ.out (H.cal (mt32 (mt8 (mt1 (mt1 mh))))) ⟨fun _ => MM.out, fun _ => rfl⟩).mono ?_)
  rintro e w3 ⟨rfl, hb⟩
  replace H := H.below hb
  clear hb
  have cc0 := H.cell (w.heap.size + 1) 0 (.bool (c.o 0)) mh
  have cc1 := H.cell (w.heap.size + 1) 1 (.bool (c.o 1)) (mt1 mh)
  have cc2 := H.cell (w.heap.size + 1) 2 (.bool (c.o 2)) (mt1 (mt1 mh))
  have cc3 := H.cell (w.heap.size + 1) 3 (.bool (c.o 3)) (mt1 (mt1 (mt1 mh)))
  have cc4 := H.cell (w.heap.size + 1) 4 (.bool (c.o 4)) (mt1 (mt1 (mt1 (mt1 mh))))
  have cc5 := H.cell (w.heap.size + 1) 5 (.bool (c.o 5)) (mt1 (mt1 (mt1 (mt1 (mt1 mh)))))
  have cc6 := H.cell (w.heap.size + 1) 6 (.bool (c.o 6)) (mt1 (mt1 (mt1 (mt1 (mt1 (mt1 mh))))))
  have cc7 := H.cell (w.heap.size + 1) 7 (.slice aR c.nr cR) (mt1 (mt1 (mt1 (mt1 (mt1 (mt1 (mt1 mh)))))))
  have cc8 := H.cell (w.heap.size + 1) 8 (.slice aD c.nd cD) (mt8 mh)
  have lc := H.lt (w.heap.size + 1) 0 (.bool (c.o 0)) mh
  go_wp2_with fail
  clear cc0 cc1 cc2 cc3 cc4 cc5 cc6 cc7 cc8 lc
  (with_reducible refine (Calls.same (rday13_is n true _ HD.out)).mono ?_)
  rintro e w4 ⟨rfl, hb⟩
  replace H := H.below hb
  clear hb
  have cc0 := H.cell (w.heap.size + 1) 0 (.bool (c.o 0)) mh
  have cc1 := H.cell (w.heap.size + 1) 1 (.bool (c.o 1)) (mt1 mh)
  have cc2 := H.cell (w.heap.size + 1) 2 (.bool (c.o 2)) (mt1 (mt1 mh))
  have cc3 := H.cell (w.heap.size + 1) 3 (.bool (c.o 3)) (mt1 (mt1 (mt1 mh)))
  have cc4 := H.cell (w.heap.size + 1) 4 (.bool (c.o 4)) (mt1 (mt1 (mt1 (mt1 mh))))
  have cc5 := H.cell (w.heap.size + 1) 5 (.bool (c.o 5)) (mt1 (mt1 (mt1 (mt1 (mt1 mh)))))
  have cc6 := H.cell (w.heap.size + 1) 6 (.bool (c.o 6)) (mt1 (mt1 (mt1 (mt1 (mt1 (mt1 mh))))))
  have cc7 := H.cell (w.heap.size + 1) 7 (.slice aR c.nr cR) (mt1 (mt1 (mt1 (mt1 (mt1 (mt1 (mt1 mh)))))))
  have cc8 := H.cell (w.heap.size + 1) 8 (.slice aD c.nd cD) (mt8 mh)
  have lc := H.lt (w.heap.size + 1) 0 (.bool (c.o 0)) mh
  go_wp2_with fail
  clear cc0 cc1 cc2 cc3 cc4 cc5 cc6 cc7 cc8 lc
  (with_reducible refine (next_is c aR cR aD cD n a 0 _ (H.factsW (mt32 (mt8 (mt1 (mt1 (mt1 mh)))))) MM.out (H.cal (mt32 (mt8 (mt1 (mt1 mh))))) (by omega) H1.out).mono ?_)
  rintro e w5 ⟨rfl, hb⟩
  replace H := H.below hb
  clear hb
  have cc0 := H.cell (w.heap.size + 1) 0 (.bool (c.o 0)) mh
  have cc1 := H.cell (w.heap.size + 1) 1 (.bool (c.o 1)) (mt1 mh)
  have cc2 := H.cell (w.heap.size + 1) 2 (.bool (c.o 2)) (mt1 (mt1 mh))
  have cc3 := H.cell (w.heap.size + 1) 3 (.bool (c.o 3)) (mt1 (mt1 (mt1 mh)))
  have cc4 := H.cell (w.heap.size + 1) 4 (.bool (c.o 4)) (mt1 (mt1 (mt1 (mt1 mh))))
  have cc5 := H.cell (w.heap.size + 1) 5 (.bool (c.o 5)) (mt1 (mt1 (mt1 (mt1 (mt1 mh)))))
  have cc6 := H.cell (w.heap.size + 1) 6 (.bool (c.o 6)) (mt1 (mt1 (mt1 (mt1 (mt1 (mt1 mh))))))
  have cc7 := H.cell (w.heap.size + 1) 7 (.slice aR c.nr cR) (mt1 (mt1 (mt1 (mt1 (mt1 (mt1 (mt1 mh)))))))
  have cc8 := H.cell (w.heap.size + 1) 8 (.slice aD c.nd cD) (mt8 mh)
  have lc := H.lt (w.heap.size + 1) 0 (.bool (c.o 0)) mh
  go_wp2_with fail
  clear cc0 cc1 cc2 cc3 cc4 cc5 cc6 cc7 cc8 lc
  (with_reducible refine (next_is c aR cR aD cD (n + z) b f _ (H.factsW (mt32 (mt8 (mt1 (mt1 (mt1 mh)))))) MM.out (H.cal (mt32 (mt8 (mt1 (mt1 mh))))) (by omega) H2.out).mono ?_)
  rintro e w6 ⟨rfl, hb⟩
  replace H := H.below hb
  clear hb
  have cc0 := H.cell (w.heap.size + 1) 0 (.bool (c.o 0)) mh
  have cc1 := H.cell (w.heap.size + 1) 1 (.bool (c.o 1)) (mt1 mh)
  have cc2 := H.cell (w.heap.size + 1) 2 (.bool (c.o 2)) (mt1 (mt1 mh))
  have cc3 := H.cell (w.heap.size + 1) 3 (.bool (c.o 3)) (mt1 (mt1 (mt1 mh)))
  have cc4 := H.cell (w.heap.size + 1) 4 (.bool (c.o 4)) (mt1 (mt1 (mt1 (mt1 mh))))
  have cc5 := H.cell (w.heap.size + 1) 5 (.bool (c.o 5)) (mt1 (mt1 (mt1 (mt1 (mt1 mh)))))
  have cc6 := H.cell (w.heap.size + 1) 6 (.bool (c.o 6)) (mt1 (mt1 (mt1 (mt1 (mt1 (mt1 mh))))))
  have cc7 := H.cell (w.heap.size + 1) 7 (.slice aR c.nr cR) (mt1 (mt1 (mt1 (mt1 (mt1 (mt1 (mt1 mh)))))))
  have cc8 := H.cell (w.heap.size + 1) 8 (.slice aD c.nd cD) (mt8 mh)
  have lc := H.lt (w.heap.size + 1) 0 (.bool (c.o 0)) mh
  go_wp2_with fail
  clear cc0 cc1 cc2 cc3 cc4 cc5 cc6 cc7 cc8 lc
  (with_reducible refine (prev_is c aR cR aD cD n p 0 _ (H.factsW (mt32 (mt8 (mt1 (mt1 (mt1 mh)))))) MM.out (H.cal (mt32 (mt8 (mt1 (mt1 mh))))) (by omega) H3.out).mono ?_)
  rintro e w7 ⟨rfl, hb⟩
  replace H := H.below hb
  clear hb
  have cc0 := H.cell (w.heap.size + 1) 0 (.bool (c.o 0)) mh
  have cc1 := H.cell (w.heap.size + 1) 1 (.bool (c.o 1)) (mt1 mh)
  have cc2 := H.cell (w.heap.size + 1) 2 (.bool (c.o 2)) (mt1 (mt1 mh))
  have cc3 := H.cell (w.heap.size + 1) 3 (.bool (c.o 3)) (mt1 (mt1 (mt1 mh)))
  have cc4 := H.cell (w.heap.size + 1) 4 (.bool (c.o 4)) (mt1 (mt1 (mt1 (mt1 mh))))
  have cc5 := H.cell (w.heap.size + 1) 5 (.bool (c.o 5)) (mt1 (mt1 (mt1 (mt1 (mt1 mh)))))
  have cc6 := H.cell (w.heap.size + 1) 6 (.bool (c.o 6)) (mt1 (mt1 (mt1 (mt1 (mt1 (mt1 mh))))))
  have cc7 := H.cell (w.heap.size + 1) 7 (.slice aR c.nr cR) (mt1 (mt1 (mt1 (mt1 (mt1 (mt1 (mt1 mh)))))))
  have cc8 := H.cell (w.heap.size + 1) 8 (.slice aD c.nd cD) (mt8 mh)
  have lc := H.lt (w.heap.size + 1) 0 (.bool (c.o 0)) mh
  go_wp2_with fail
  clear cc0 cc1 cc2 cc3 cc4 cc5 cc6 cc7 cc8 lc
  (with_reducible refine (prev_is c aR cR aD cD (n + z) q h _ (H.factsW (mt32 (mt8 (mt1 (mt1 (mt1 mh)))))) MM.out (H.cal (mt32 (mt8 (mt1 (mt1 mh))))) (by omega) H4.out).mono ?_)
  rintro e w8 ⟨rfl, hb⟩
  replace H := H.below hb
  clear hb
  have cc0 := H.cell (w.heap.size + 1) 0 (.bool (c.o 0)) mh
  have cc1 := H.cell (w.heap.size + 1) 1 (.bool (c.o 1)) (mt1 mh)
  have cc2 := H.cell (w.heap.size + 1) 2 (.bool (c.o 2)) (mt1 (mt1 mh))
  have cc3 := H.cell (w.heap.size + 1) 3 (.bool (c.o 3)) (mt1 (mt1 (mt1 mh)))
  have cc4 := H.cell (w.heap.size + 1) 4 (.bool (c.o 4)) (mt1 (mt1 (mt1 (mt1 mh))))
  have cc5 := H.cell (w.heap.size + 1) 5 (.bool (c.o 5)) (mt1 (mt1 (mt1 (mt1 (mt1 mh)))))
  have cc6 := H.cell (w.heap.size + 1) 6 (.bool (c.o 6)) (mt1 (mt1 (mt1 (mt1 (mt1 (mt1 mh))))))
  have cc7 := H.cell (w.heap.size + 1) 7 (.slice aR c.nr cR) (mt1 (mt1 (mt1 (mt1 (mt1 (mt1 (mt1 mh)))))))
  have cc8 := H.cell (w.heap.size + 1) 8 (.slice aD c.nd cD) (mt8 mh)
  have lc := H.lt (w.heap.size + 1) 0 (.bool (c.o 0)) mh
  repeat' (first | simp only [List.append_eq, List.cons_append, List.nil_append] | go_values | go_skip | go_guarded | go_step | go_upon)
  clear cc0 cc1 cc2 cc3 cc4 cc5 cc6 cc7 cc8 lc
  (with_reducible refine (to_is14 c aR cR aD cD n (k % 5) x 0 _ (H.factsW (mt32 (mt8 (mt1 (mt1 (mt1 mh)))))) MM.out (H.cal (mt32 (mt8 (mt1 (mt1 mh))))) (by omega) H5.out).mono ?_)
  rintro e w9 ⟨rfl, hb⟩
  replace H := H.below hb
  clear hb
  have cc0 := H.cell (w.heap.size + 1) 0 (.bool (c.o 0)) mh
  have cc1 := H.cell (w.heap.size + 1) 1 (.bool (c.o 1)) (mt1 mh)
  have cc2 := H.cell (w.heap.size + 1) 2 (.bool (c.o 2)) (mt1 (mt1 mh))
  have cc3 := H.cell (w.heap.size + 1) 3 (.bool (c.o 3)) (mt1 (mt1 (mt1 mh)))
  have cc4 := H.cell (w.heap.size + 1) 4 (.bool (c.o 4)) (mt1 (mt1 (mt1 (mt1 mh))))
  have cc5 := H.cell (w.heap.size + 1) 5 (.bool (c.o 5)) (mt1 (mt1 (mt1 (mt1 (mt1 mh)))))
  have cc6 := H.cell (w.heap.size + 1) 6 (.bool (c.o 6)) (mt1 (mt1 (mt1 (mt1 (mt1 (mt1 mh))))))
  have cc7 := H.cell (w.heap.size + 1) 7 (.slice aR c.nr cR) (mt1 (mt1 (mt1 (mt1 (mt1 (mt1 (mt1 mh)))))))
  have cc8 := H.cell (w.heap.size + 1) 8 (.slice aD c.nd cD) (mt8 mh)
  have lc := H.lt (w.heap.size + 1) 0 (.bool (c.o 0)) mh
  repeat' (first | simp only [List.append_eq, List.cons_append, List.nil_append] | go_values | go_skip | go_guarded | go_step | go_upon)
  clear cc0 cc1 cc2 cc3 cc4 cc5 cc6 cc7 cc8 lc
  (with_reducible refine (to_is14 c aR cR aD cD x (k % 5) x 0 _ (H.factsW (mt32 (mt8 (mt1 (mt1 (mt1 mh)))))) MM.out (H.cal (mt32 (mt8 (mt1 (mt1 mh))))) bx H6.out).mono ?_)
  rintro e w10 ⟨rfl, hb⟩
  replace H := H.below hb
  clear hb
  repeat' (first | simp only [List.append_eq, List.cons_append, List.nil_append] | go_values | go_skip | go_guarded | go_step | go_upon)
  go_ret
  exact ⟨rfl, H.old⟩

set_option maxHeartbeats 8000000 in
set_option maxRecDepth 100000 in
theorem rorises_BBf (c : Ca) (aR : Option Addr) (cR : Nat) (aD : Option Addr) (cD : Nat) (n z k a b p q i f h : Int) (w : World) (hL : FactsW w) (hCc : CalAt w c aR cR aD cD) (bz : 0 ≤ z ∧ z < 256) (bk : 0 ≤ k ∧ k < 256) (hf : decide (c.nr ≤ 12 ∧ c.nd ≤ 60) = true) (hS : c.Small) (hM : c.May) (hd : decide (1 ≤ n ∧ n ≤ 3652059) = true) (nb : 1 ≤ n ∧ n ≤ 3652059) (hr : n + z ≤ 3652059) (h1 : StepIs c 1 n a 0) (h2 : StepIs c 1 (n + z) b f) (h3 : StepIs c (-1) n p 0) (h4 : StepIs c (-1) (n + z) q h) (h5 : ToIs c n (k % 5) 0 i) (kf : (f == 0) = false) (kh : (h == 0) = false) (ki : (i == 0) = false) :
    Calls Tryd.prog 6 #[.agg #[.bool (c.o 0), .bool (c.o 1), .bool (c.o 2), .bool (c.o 3), .bool (c.o 4), .bool (c.o 5), .bool (c.o 6), .slice aR c.nr cR, .slice aD c.nd cD, .int .i64 n, .int .u8 z, .int .u8 k]] w fun e w' => e = .returned (.bool true) ∧ Below w.heap.size w w' := by
  have H := ((Held.start w).add (f := factsWF) hL).add (f := calF c aR cR aD cD) hCc
  clear hL hCc
  have t0 : decide (n + z > 3652059) = false := decide_eq_false (by omega)
  have zf : (f != 0) = true := by simpa using kf
  have zh : (h != 0) = true := by simpa using kh
  have zi : (i != 0) = true := by simpa using ki
  have HF := Lib.hid hf
  have HZ := Lib.hid hS
  have MM := Lib.hid hM
  have HD := Lib.hid hd
  have H1 := Lib.hid h1
  have H2 := Lib.hid h2
  have H3 := Lib.hid h3
  have H4 := Lib.hid h4
  have H5 := Lib.hid h5
  clear hf hS hM hd h1 h2 h3 h4 h5
  go_enter Tryd.func6, Tryd.ntmps6
  go_wp2_with fail
  replace H := ((H.box_12 (w.heap.size) (.bool (c.o 0)) (.bool (c.o 1)) (.bool (c.o 2)) (.bool (c.o 3)) (.bool (c.o 4)) (.bool (c.o 5)) (.bool (c.o 6)) (.slice aR c.nr cR) (.slice aD c.nd cD) (.int .i64 n) (.int .u8 z) (.int .u8 k) 50 rfl).box_9 (w.heap.size + 1) (.bool (c.o 0)) (.bool (c.o 1)) (.bool (c.o 2)) (.bool (c.o 3)) (.bool (c.o 4)) (.bool (c.o 5)) (.bool (c.o 6)) (.slice aR c.nr cR) (.slice aD c.nd cD) 26 (by simp))
  (with_reducible refine (roshown_any _ (H.factsW (mt32 (mt8 (mt1 (mt1 (mt1 mh))))))).mono ?_)
  rintro e w1 ⟨rfl, hb⟩
  replace H := H.below hb
  clear hb
  have cc0 := H.cell (w.heap.size + 1) 0 (.bool (c.o 0)) mh
  have cc1 := H.cell (w.heap.size + 1) 1 (.bool (c.o 1)) (mt1 mh)
  have cc2 := H.cell (w.heap.size + 1) 2 (.bool (c.o 2)) (mt1 (mt1 mh))
  have cc3 := H.cell (w.heap.size + 1) 3 (.bool (c.o 3)) (mt1 (mt1 (mt1 mh)))
  have cc4 := H.cell (w.heap.size + 1) 4 (.bool (c.o 4)) (mt1 (mt1 (mt1 (mt1 mh))))
  have cc5 := H.cell (w.heap.size + 1) 5 (.bool (c.o 5)) (mt1 (mt1 (mt1 (mt1 (mt1 mh)))))
  have cc6 := H.cell (w.heap.size + 1) 6 (.bool (c.o 6)) (mt1 (mt1 (mt1 (mt1 (mt1 (mt1 mh))))))
  have cc7 := H.cell (w.heap.size + 1) 7 (.slice aR c.nr cR) (mt1 (mt1 (mt1 (mt1 (mt1 (mt1 (mt1 mh)))))))
  have cc8 := H.cell (w.heap.size + 1) 8 (.slice aD c.nd cD) (mt8 mh)
  have lc := H.lt (w.heap.size + 1) 0 (.bool (c.o 0)) mh
  go_wp2_with fail
  clear cc0 cc1 cc2 cc3 cc4 cc5 cc6 cc7 cc8 lc
  (with_reducible refine (few_any c aR cR aD cD true _ HF.out).mono ?_)
  rintro e w2 ⟨rfl, hb⟩
  replace H := H.below hb
  clear hb
  have cc0 := H.cell (w.heap.size + 1) 0 (.bool (c.o 0)) mh
  have cc1 := H.cell (w.heap.size + 1) 1 (.bool (c.o 1)) (mt1 mh)
  have cc2 := H.cell (w.heap.size + 1) 2 (.bool (c.o 2)) (mt1 (mt1 mh))
  have cc3 := H.cell (w.heap.size + 1) 3 (.bool (c.o 3)) (mt1 (mt1 (mt1 mh)))
  have cc4 := H.cell (w.heap.size + 1) 4 (.bool (c.o 4)) (mt1 (mt1 (mt1 (mt1 mh))))
  have cc5 := H.cell (w.heap.size + 1) 5 (.bool (c.o 5)) (mt1 (mt1 (mt1 (mt1 (mt1 mh)))))
  have cc6 := H.cell (w.heap.size + 1) 6 (.bool (c.o 6)) (mt1 (mt1 (mt1 (mt1 (mt1 (mt1 mh))))))
  have cc7 := H.cell (w.heap.size + 1) 7 (.slice aR c.nr cR) (mt1 (mt1 (mt1 (mt1 (mt1 (mt1 (mt1 mh)))))))
  have cc8 := H.cell (w.heap.size + 1) 8 (.slice aD c.nd cD) (mt8 mh)
  have lc := H.lt (w.heap.size + 1) 0 (.bool (c.o 0)) mh
  go_wp2_with fail
  clear cc0 cc1 cc2 cc3 cc4 cc5 cc6 cc7 cc8 lc
  (with_reducible refine (rcmay_any c aR cR aD cD true _ HZ.out (H.cal (mt32 (mt8 (mt1 (mt1 mh))))) ⟨fun _ => MM.out, fun _ => rfl⟩).mono ?_)
  rintro e w3 ⟨rfl, hb⟩
  replace H := H.below hb
  clear hb
  have cc0 := H.cell (w.heap.size + 1) 0 (.bool (c.o 0)) mh
  have cc1 := H.cell (w.heap.size + 1) 1 (.bool (c.o 1)) (mt1 mh)
  have cc2 := H.cell (w.heap.size + 1) 2 (.bool (c.o 2)) (mt1 (mt1 mh))
  have cc3 := H.cell (w.heap.size + 1) 3 (.bool (c.o 3)) (mt1 (mt1 (mt1 mh)))
  have cc4 := H.cell (w.heap.size + 1) 4 (.bool (c.o 4)) (mt1 (mt1 (mt1 (mt1 mh))))
  have cc5 := H.cell (w.heap.size + 1) 5 (.bool (c.o 5)) (mt1 (mt1 (mt1 (mt1 (mt1 mh)))))
  have cc6 := H.cell (w.heap.size + 1) 6 (.bool (c.o 6)) (mt1 (mt1 (mt1 (mt1 (mt1 (mt1 mh))))))
  have cc7 := H.cell (w.heap.size + 1) 7 (.slice aR c.nr cR) (mt1 (mt1 (mt1 (mt1 (mt1 (mt1 (mt1 mh)))))))
  have cc8 := H.cell (w.heap.size + 1) 8 (.slice aD c.nd cD) (mt8 mh)
  have lc := H.lt (w.heap.size + 1) 0 (.bool (c.o 0)) mh
  go_wp2_with fail
  clear cc0 cc1 cc2 cc3 cc4 cc5 cc6 cc7 cc8 lc
  (with_reducible refine (Calls.same (rday13_is n true _ HD.out)).mono ?_)
  rintro e w4 ⟨rfl, hb⟩
  replace H := H.below hb
  clear hb
  have cc0 := H.cell (w.heap.size + 1) 0 (.bool (c.o 0)) mh
  have cc1 := H.cell (w.heap.size + 1) 1 (.bool (c.o 1)) (mt1 mh)
  have cc2 := H.cell (w.heap.size + 1) 2 (.bool (c.o 2)) (mt1 (mt1 mh))
  have cc3 := H.cell (w.heap.size + 1) 3 (.bool (c.o 3)) (mt1 (mt1 (mt1 mh)))
  have cc4 := H.cell (w.heap.size + 1) 4 (.bool (c.o 4)) (mt1 (mt1 (mt1 (mt1 mh))))
  have cc5 := H.cell (w.heap.size + 1) 5 (.bool (c.o 5)) (mt1 (mt1 (mt1 (mt1 (mt1 mh)))))
  have cc6 := H.cell (w.heap.size + 1) 6 (.bool (c.o 6)) (mt1 (mt1 (mt1 (mt1 (mt1 (mt1 mh))))))
  have cc7 := H.cell (w.heap.size + 1) 7 (.slice aR c.nr cR) (mt1 (mt1 (mt1 (mt1 (mt1 (mt1 (mt1 mh)))))))
  have cc8 := H.cell (w.heap.size + 1) 8 (.slice aD c.nd cD) (mt8 mh)
  have lc := H.lt (w.heap.size + 1) 0 (.bool (c.o 0)) mh
  go_wp2_with fail
  clear cc0 cc1 cc2 cc3 cc4 cc5 cc6 cc7 cc8 lc
  (with_reducible refine (next_is c aR cR aD cD n a 0 _ (H.factsW (mt32 (mt8 (mt1 (mt1 (mt1 mh)))))) MM.out (H.cal (mt32 (mt8 (mt1 (mt1 mh))))) (by omega) H1.out).mono ?_)
  rintro e w5 ⟨rfl, hb⟩
  replace H := H.below hb
  clear hb
  have cc0 := H.cell (w.heap.size + 1) 0 (.bool (c.o 0)) mh
  have cc1 := H.cell (w.heap.size + 1) 1 (.bool (c.o 1)) (mt1 mh)
  have cc2 := H.cell (w.heap.size + 1) 2 (.bool (c.o 2)) (mt1 (mt1 mh))
  have cc3 := H.cell (w.heap.size + 1) 3 (.bool (c.o 3)) (mt1 (mt1 (mt1 mh)))
  have cc4 := H.cell (w.heap.size + 1) 4 (.bool (c.o 4)) (mt1 (mt1 (mt1 (mt1 mh))))
  have cc5 := H.cell (w.heap.size + 1) 5 (.bool (c.o 5)) (mt1 (mt1 (mt1 (mt1 (mt1 mh)))))
  have cc6 := H.cell (w.heap.size + 1) 6 (.bool (c.o 6)) (mt1 (mt1 (mt1 (mt1 (mt1 (mt1 mh))))))
  have cc7 := H.cell (w.heap.size + 1) 7 (.slice aR c.nr cR) (mt1 (mt1 (mt1 (mt1 (mt1 (mt1 (mt1 mh)))))))
  have cc8 := H.cell (w.heap.size + 1) 8 (.slice aD c.nd cD) (mt8 mh)
  have lc := H.lt (w.heap.size + 1) 0 (.bool (c.o 0)) mh
  go_wp2_with fail
  clear cc0 cc1 cc2 cc3 cc4 cc5 cc6 cc7 cc8 lc
  (with_reducible refine (next_is c aR cR aD cD (n + z) b f _ (H.factsW (mt32 (mt8 (mt1 (mt1 (mt1 mh)))))) MM.out (H.cal (mt32 (mt8 (mt1 (mt1 mh))))) (by omega) H2.out).mono ?_)
  rintro e w6 ⟨rfl, hb⟩
  replace H := H.below hb
  clear hb
  have cc0 := H.cell (w.heap.size + 1) 0 (.bool (c.o 0)) mh
  have cc1 := H.cell (w.heap.size + 1) 1 (.bool (c.o 1)) (mt1 mh)
  have cc2 := H.cell (w.heap.size + 1) 2 (.bool (c.o 2)) (mt1 (mt1 mh))
  have cc3 := H.cell (w.heap.size + 1) 3 (.bool (c.o 3)) (mt1 (mt1 (mt1 mh)))
  have cc4 := H.cell (w.heap.size + 1) 4 (.bool (c.o 4)) (mt1 (mt1 (mt1 (mt1 mh))))
  have cc5 := H.cell (w.heap.size + 1) 5 (.bool (c.o 5)) (mt1 (mt1 (mt1 (mt1 (mt1 mh)))))
  have cc6 := H.cell (w.heap.size + 1) 6 (.bool (c.o 6)) (mt1 (mt1 (mt1 (mt1 (mt1 (mt1 mh))))))
  have cc7 := H.cell (w.heap.size + 1) 7 (.slice aR c.nr cR) (mt1 (mt1 (mt1 (mt1 (mt1 (mt1 (mt1 mh)))))))
  have cc8 := H.cell (w.heap.size + 1) 8 (.slice aD c.nd cD) (mt8 mh)
  have lc := H.lt (w.heap.size + 1) 0 (.bool (c.o 0)) mh
  go_wp2_with fail
  clear cc0 cc1 cc2 cc3 cc4 cc5 cc6 cc7 cc8 lc
  (with_reducible refine (prev_is c aR cR aD cD n p 0 _ (H.factsW (mt32 (mt8 (mt1 (mt1 (mt1 mh)))))) MM.out (H.cal (mt32 (mt8 (mt1 (mt1 mh))))) (by omega) H3.out).mono ?_)
  rintro e w7 ⟨rfl, hb⟩
  replace H := H.below hb
  clear hb
  have cc0 := H.cell (w.heap.size + 1) 0 (.bool (c.o 0)) mh
  have cc1 := H.cell (w.heap.size + 1) 1 (.bool (c.o 1)) (mt1 mh)
  have cc2 := H.cell (w.heap.size + 1) 2 (.bool (c.o 2)) (mt1 (mt1 mh))
  have cc3 := H.cell (w.heap.size + 1) 3 (.bool (c.o 3)) (mt1 (mt1 (mt1 mh)))
  have cc4 := H.cell (w.heap.size + 1) 4 (.bool (c.o 4)) (mt1 (mt1 (mt1 (mt1 mh))))
  have cc5 := H.cell (w.heap.size + 1) 5 (.bool (c.o 5)) (mt1 (mt1 (mt1 (mt1 (mt1 mh)))))
  have cc6 := H.cell (w.heap.size + 1) 6 (.bool (c.o 6)) (mt1 (mt1 (mt1 (mt1 (mt1 (mt1 mh))))))
  have cc7 := H.cell (w.heap.size + 1) 7 (.slice aR c.nr cR) (mt1 (mt1 (mt1 (mt1 (mt1 (mt1 (mt1 mh)))))))
  have cc8 := H.cell (w.heap.size + 1) 8 (.slice aD c.nd cD) (mt8 mh)
  have lc := H.lt (w.heap.size + 1) 0 (.bool (c.o 0)) mh
  go_wp2_with fail
  clear cc0 cc1 cc2 cc3 cc4 cc5 cc6 cc7 cc8 lc
  (with_reducible refine (prev_is c aR cR aD cD (n + z) q h _ (H.factsW (mt32 (mt8 (mt1 (mt1 (mt1 mh)))))) MM.out (H.cal (mt32 (mt8 (mt1 (mt1 mh))))) (by omega) H4.out).mono ?_)
  rintro e w8 ⟨rfl, hb⟩
  replace H := H.below hb
  clear hb
  have cc0 := H.cell (w.heap.size + 1) 0 (.bool (c.o 0)) mh
  have cc1 := H.cell (w.heap.size + 1) 1 (.bool (c.o 1)) (mt1 mh)
  have cc2 := H.cell (w.heap.size + 1) 2 (.bool (c.o 2)) (mt1 (mt1 mh))
  have cc3 := H.cell (w.heap.size + 1) 3 (.bool (c.o 3)) (mt1 (mt1 (mt1 mh)))
  have cc4 := H.cell (w.heap.size + 1) 4 (.bool (c.o 4)) (mt1 (mt1 (mt1 (mt1 mh))))
  have cc5 := H.cell (w.heap.size + 1) 5 (.bool (c.o 5)) (mt1 (mt1 (mt1 (mt1 (mt1 mh)))))
  have cc6 := H.cell (w.heap.size + 1) 6 (.bool (c.o 6)) (mt1 (mt1 (mt1 (mt1 (mt1 (mt1 mh))))))
  have cc7 := H.cell (w.heap.size + 1) 7 (.slice aR c.nr cR) (mt1 (mt1 (mt1 (mt1 (mt1 (mt1 (mt1 mh)))))))
  have cc8 := H.cell (w.heap.size + 1) 8 (.slice aD c.nd cD) (mt8 mh)
  have lc := H.lt (w.heap.size + 1) 0 (.bool (c.o 0)) mh
  repeat' (first | simp only [List.append_eq, List.cons_append, List.nil_append] | go_values | go_skip | go_guarded | go_step | go_upon)
  clear cc0 cc1 cc2 cc3 cc4 cc5 cc6 cc7 cc8 lc
  (with_reducible refine (to_is14 c aR cR aD cD n (k % 5) 0 i _ (H.factsW (mt32 (mt8 (mt1 (mt1 (mt1 mh)))))) MM.out (H.cal (mt32 (mt8 (mt1 (mt1 mh))))) (by omega) H5.out).mono ?_)
  rintro e w9 ⟨rfl, hb⟩
  replace H := H.below hb
  clear hb
  repeat' (first | simp only [List.append_eq, List.cons_append, List.nil_append] | go_values | go_skip | go_guarded | go_step | go_upon)
  go_ret
  exact ⟨rfl, H.old⟩

set_option maxHeartbeats 8000000 in
set_option maxRecDepth 100000 in
theorem rorises_BCt (c : Ca) (aR : Option Addr) (cR : Nat) (aD : Option Addr) (cD : Nat) (n z k a b p q x f : Int) (w : World) (hL : FactsW w) (hCc : CalAt w c aR cR aD cD) (bz : 0 ≤ z ∧ z < 256) (bk : 0 ≤ k ∧ k < 256) (hf : decide (c.nr ≤ 12 ∧ c.nd ≤ 60) = true) (hS : c.Small) (hM : c.May) (hd : decide (1 ≤ n ∧ n ≤ 3652059) = true) (nb : 1 ≤ n ∧ n ≤ 3652059) (hr : n + z ≤ 3652059) (h1 : StepIs c 1 n a 0) (h2 : StepIs c 1 (n + z) b f) (h3 : StepIs c (-1) n p 0) (h4 : StepIs c (-1) (n + z) q 0) (h5 : ToIs c n (k % 5) x 0) (kf : (f == 0) = false) (h6 : ToIs c x (k % 5) x 0) (bx : -9223372036854775808 ≤ x ∧ x < 9223372036854775808) (hpq : decide (p > q) = false) :
    Calls Tryd.prog 6 #[.agg #[.bool (c.o 0), .bool (c.o 1), .bool (c.o 2), .bool (c.o 3), .bool (c.o 4), .bool (c.o 5), .bool (c.o 6), .slice aR c.nr cR, .slice aD c.nd cD, .int .i64 n, .int .u8 z, .int .u8 k]] w fun e w' => e = .returned (.bool true) ∧ Below w.heap.size w w' := by
  have H := ((Held.start w).add (f := factsWF) hL).add (f := calF c aR cR aD cD) hCc
  clear hL hCc
  have t0 : decide (n + z > 3652059) = false := decide_eq_false (by omega)
  have zf : (f != 0) = true := by simpa using kf
  have HF := Lib.hid hf
  have HZ := Lib.hid hS
  have MM := Lib.hid hM
  have HD := Lib.hid hd
  have H1 := Lib.hid h1
  have H2 := Lib.hid h2
  have H3 := Lib.hid h3
  have H4 := Lib.hid h4
  have H5 := Lib.hid h5
  have H6 := Lib.hid h6
  clear hf hS hM hd h1 h2 h3 h4 h5 h6
  go_enter Tryd.func6, Tryd.ntmps6
  go_wp2_with fail
  replace H := ((H.box_12 (w.heap.size) (.bool (c.o 0)) (.bool (c.o 1)) (.bool (c.o 2)) (.bool (c.o 3)) (.bool (c.o 4)) (.bool (c.o 5)) (.bool (c.o 6)) (.slice aR c.nr cR) (.slice aD c.nd cD) (.int .i64 n) (.int .u8 z) (.int .u8 k) 50 rfl).box_9 (w.heap.size + 1) (.bool (c.o 0)) (.bool (c.o 1)) (.bool (c.o 2)) (.bool (c.o 3)) (.bool (c.o 4)) (.bool (c.o 5)) (.bool (c.o 6)) (.slice aR c.nr cR) (.slice aD c.nd cD) 26 (by simp))
  (with_reducible refine (roshown_any _ (H.factsW (mt32 (mt8 (mt1 (mt1 (mt1 mh))))))).mono ?_)
  rintro e w1 ⟨rfl, hb⟩
  replace H := H.below hb
  clear hb
  have cc0 := H.cell (w.heap.size + 1) 0 (.bool (c.o 0)) mh
  have cc1 := H.cell (w.heap.size + 1) 1 (.bool (c.o 1)) (mt1 mh)
  have cc2 := H.cell (w.heap.size + 1) 2 (.bool (c.o 2)) (mt1 (mt1 mh))
  have cc3 := H.cell (w.heap.size + 1) 3 (.bool (c.o 3)) (mt1 (mt1 (mt1 mh)))
  have cc4 := H.cell (w.heap.size + 1) 4 (.bool (c.o 4)) (mt1 (mt1 (mt1 (mt1 mh))))
  have cc5 := H.cell (w.heap.size + 1) 5 (.bool (c.o 5)) (mt1 (mt1 (mt1 (mt1 (mt1 mh)))))
  have cc6 := H.cell (w.heap.size + 1) 6 (.bool (c.o 6)) (mt1 (mt1 (mt1 (mt1 (mt1 (mt1 mh))))))
  have cc7 := H.cell (w.heap.size + 1) 7 (.slice aR c.nr cR) (mt1 (mt1 (mt1 (mt1 (mt1 (mt1 (mt1 mh)))))))
  have cc8 := H.cell (w.heap.size + 1) 8 (.slice aD c.nd cD) (mt8 mh)
  have lc := H.lt (w.heap.size + 1) 0 (.bool (c.o 0)) mh
  go_wp2_with fail
  clear cc0 cc1 cc2 cc3 cc4 cc5 cc6 cc7 cc8 lc
  (with_reducible refine (few_any c aR cR aD cD true _ HF.out).mono ?_)
  rintro e w2 ⟨rfl, hb⟩
  replace H := H.below hb
  clear hb
  have cc0 := H.cell (w.heap.size + 1) 0 (.bool (c.o 0)) mh
  have cc1 := H.cell (w.heap.size + 1) 1 (.bool (c.o 1)) (mt1 mh)
  have cc2 := H.cell (w.heap.size + 1) 2 (.bool (c.o 2)) (mt1 (mt1 mh))
  have cc3 := H.cell (w.heap.size + 1) 3 (.bool (c.o 3)) (mt1 (mt1 (mt1 mh)))
  have cc4 := H.cell (w.heap.size + 1) 4 (.bool (c.o 4)) (mt1 (mt1 (mt1 (mt1 mh))))
  have cc5 := H.cell (w.heap.size + 1) 5 (.bool (c.o 5)) (mt1 (mt1 (mt1 (mt1 (mt1 mh)))))
  have cc6 := H.cell (w.heap.size + 1) 6 (.bool (c.o 6)) (mt1 (mt1 (mt1 (mt1 (mt1 (mt1 mh))))))
  have cc7 := H.cell (w.heap.size + 1) 7 (.slice aR c.nr cR) (mt1 (mt1 (mt1 (mt1 (mt1 (mt1 (mt1 mh)))))))
  have cc8 := H.cell (w.heap.size + 1) 8 (.slice aD c.nd cD) (mt8 mh)
  have lc := H.lt (w.heap.size + 1) 0 (.bool (c.o 0)) mh
  go_wp2_with fail
  clear cc0 cc1 cc2 cc3 cc4 cc5 cc6 cc7 cc8 lc
  (with_reducible refine (rcmay_any c aR cR aD cD true _ HZ.out (H.cal (mt32 (mt8 (mt1 (mt1 mh))))) ⟨fun _ => MM.out, fun _ => rfl⟩).mono ?_)
  rintro e w3 ⟨rfl, hb⟩
  replace H := H.below hb
  clear hb
  have cc0 := H.cell (w.heap.size + 1) 0 (.bool (c.o 0)) mh
  have cc1 := H.cell (w.heap.size + 1) 1 (.bool (c.o 1)) (mt1 mh)
  have cc2 := H.cell (w.heap.size + 1) 2 (.bool (c.o 2)) (mt1 (mt1 mh))
  have cc3 := H.cell (w.heap.size + 1) 3 (.bool (c.o 3)) (mt1 (mt1 (mt1 mh)))
  have cc4 := H.cell (w.heap.size + 1) 4 (.bool (c.o 4)) (mt1 (mt1 (mt1 (mt1 mh))))
  have cc5 := H.cell (w.heap.size + 1) 5 (.bool (c.o 5)) (mt1 (mt1 (mt1 (mt1 (mt1 mh)))))
  have cc6 := H.cell (w.heap.size + 1) 6 (.bool (c.o 6)) (mt1 (mt1 (mt1 (mt1 (mt1 (mt1 mh))))))
  have cc7 := H.cell (w.heap.size + 1) 7 (.slice aR c.nr cR) (mt1 (mt1 (mt1 (mt1 (mt1 (mt1 (mt1 mh)))))))
  have cc8 := H.cell (w.heap.size + 1) 8 (.slice aD c.nd cD) (mt8 mh)
  have lc := H.lt (w.heap.size + 1) 0 (.bool (c.o 0)) mh
  go_wp2_with fail
  clear cc0 cc1 cc2 cc3 cc4 cc5 cc6 cc7 cc8 lc
  (with_reducible refine (Calls.same (rday13_is n true _ HD.out)).mono ?_)
  rintro e w4 ⟨rfl, hb⟩
  replace H := H.below hb
  clear hb
  have cc0 := H.cell (w.heap.size + 1) 0 (.bool (c.o 0)) mh
  have cc1 := H.cell (w.heap.size + 1) 1 (.bool (c.o 1)) (mt1 mh)
  have cc2 := H.cell (w.heap.size + 1) 2 (.bool (c.o 2)) (mt1 (mt1 mh))
  have cc3 := H.cell (w.heap.size + 1) 3 (.bool (c.o 3)) (mt1 (mt1 (mt1 mh)))
  have cc4 := H.cell (w.heap.size + 1) 4 (.bool (c.o 4)) (mt1 (mt1 (mt1 (mt1 mh))))
  have cc5 := H.cell (w.heap.size + 1) 5 (.bool (c.o 5)) (mt1 (mt1 (mt1 (mt1 (mt1 mh)))))
  have cc6 := H.cell (w.heap.size + 1) 6 (.bool (c.o 6)) (mt1 (mt1 (mt1 (mt1 (mt1 (mt1 mh))))))
  have cc7 := H.cell (w.heap.size + 1) 7 (.slice aR c.nr cR) (mt1 (mt1 (mt1 (mt1 (mt1 (mt1 (mt1 mh)))))))
  have cc8 := H.cell (w.heap.size + 1) 8 (.slice aD c.nd cD) (mt8 mh)
  have lc := H.lt (w.heap.size + 1) 0 (.bool (c.o 0)) mh
  go_wp2_with fail
  clear cc0 cc1 cc2 cc3 cc4 cc5 cc6 cc7 cc8 lc
  (with_reducible refine (next_is c aR cR aD cD n a 0 _ (H.factsW (mt32 (mt8 (mt1 (mt1 (mt1 mh)))))) MM.out (H.cal (mt32 (mt8 (mt1 (mt1 mh))))) (by omega) H1.out).mono ?_)
  rintro e w5 ⟨rfl, hb⟩
  replace H := H.below hb
  clear hb
  have cc0 := H.cell (w.heap.size + 1) 0 (.bool (c.o 0)) mh
  have cc1 := H.cell (w.heap.size + 1) 1 (.bool (c.o 1)) (mt1 mh)
  have cc2 := H.cell (w.heap.size + 1) 2 (.bool (c.o 2)) (mt1 (mt1 mh))
  have cc3 := H.cell (w.heap.size + 1) 3 (.bool (c.o 3)) (mt1 (mt1 (mt1 mh)))
  have cc4 := H.cell (w.heap.size + 1) 4 (.bool (c.o 4)) (mt1 (mt1 (mt1 (mt1 mh))))
  have cc5 := H.cell (w.heap.size + 1) 5 (.bool (c.o 5)) (mt1 (mt1 (mt1 (mt1 (mt1 mh)))))
  have cc6 := H.cell (w.heap.size + 1) 6 (.bool (c.o 6)) (mt1 (mt1 (mt1 (mt1 (mt1 (mt1 mh))))))
  have cc7 := H.cell (w.heap.size + 1) 7 (.slice aR c.nr cR) (mt1 (mt1 (mt1 (mt1 (mt1 (mt1 (mt1 mh)))))))
  have cc8 := H.cell (w.heap.size + 1) 8 (.slice aD c.nd cD) (mt8 mh)
  have lc := H.lt (w.heap.size + 1) 0 (.bool (c.o 0)) mh
  go_wp2_with fail
  clear cc0 cc1 cc2 cc3 cc4 cc5 cc6 cc7 cc8 lc
  (with_reducible refine (next_is c aR cR aD cD (n + z) b f _ (H.factsW (mt32 (mt8 (mt1 (mt1 (mt1 mh)))))) MM.out (H.cal (mt32 (mt8 (mt1 (mt1 mh))))) (by omega) H2.out).mono ?_)
  rintro e w6 ⟨rfl, hb⟩
  replace H := H.below hb
  clear hb
  have cc0 := H.cell (w.heap.size + 1) 0 (.bool (c.o 0)) mh
  have cc1 := H.cell (w.heap.size + 1) 1 (.bool (c.o 1)) (mt1 mh)
  have cc2 := H.cell (w.heap.size + 1) 2 (.bool (c.o 2)) (mt1 (mt1 mh))
  have cc3 := H.cell (w.heap.size + 1) 3 (.bool (c.o 3)) (mt1 (mt1 (mt1 mh)))
  have cc4 := H.cell (w.heap.size + 1) 4 (.bool (c.o 4)) (mt1 (mt1 (mt1 (mt1 mh))))
  have cc5 := H.cell (w.heap.size + 1) 5 (.bool (c.o 5)) (mt1 (mt1 (mt1 (mt1 (mt1 mh)))))
  have cc6 := H.cell (w.heap.size + 1) 6 (.bool (c.o 6)) (mt1 (mt1 (mt1 (mt1 (mt1 (mt1 mh))))))
  have cc7 := H.cell (w.heap.size + 1) 7 (.slice aR c.nr cR) (mt1 (mt1 (mt1 (mt1 (mt1 (mt1 (mt1 mh)))))))
  have cc8 := H.cell (w.heap.size + 1) 8 (.slice aD c.nd cD) (mt8 mh)
  have lc := H.lt (w.heap.size + 1) 0 (.bool (c.o 0)) mh
  go_wp2_with fail
  clear cc0 cc1 cc2 cc3 cc4 cc5 cc6 cc7 cc8 lc
  (with_reducible refine (prev_is c aR cR aD cD n p 0 _ (H.factsW (mt32 (mt8 (mt1 (mt1 (mt1 mh)))))) MM.out (H.cal (mt32 (mt8 (mt1 (mt1 mh))))) (by omega) H3.out).mono ?_)
  rintro e w7 ⟨rfl, hb⟩
  replace H := H.below hb
  clear hb
  have cc0 := H.cell (w.heap.size + 1) 0 (.bool (c.o 0)) mh
  have cc1 := H.cell (w.heap.size + 1) 1 (.bool (c.o 1)) (mt1 mh)
  have cc2 := H.cell (w.heap.size + 1) 2 (.bool (c.o 2)) (mt1 (mt1 mh))
  have cc3 := H.cell (w.heap.size + 1) 3 (.bool (c.o 3)) (mt1 (mt1 (mt1 mh)))
  have cc4 := H.cell (w.heap.size + 1) 4 (.bool (c.o 4)) (mt1 (mt1 (mt1 (mt1 mh))))
  have cc5 := H.cell (w.heap.size + 1) 5 (.bool (c.o 5)) (mt1 (mt1 (mt1 (mt1 (mt1 mh)))))
  have cc6 := H.cell (w.heap.size + 1) 6 (.bool (c.o 6)) (mt1 (mt1 (mt1 (mt1 (mt1 (mt1 mh))))))
  have cc7 := H.cell (w.heap.size + 1) 7 (.slice aR c.nr cR) (mt1 (mt1 (mt1 (mt1 (mt1 (mt1 (mt1 mh)))))))
  have cc8 := H.cell (w.heap.size + 1) 8 (.slice aD c.nd cD) (mt8 mh)
  have lc := H.lt (w.heap.size + 1) 0 (.bool (c.o 0)) mh
  go_wp2_with fail
  clear cc0 cc1 cc2 cc3 cc4 cc5 cc6 cc7 cc8 lc
  (with_reducible refine (prev_is c aR cR aD cD (n + z) q 0 _ (H.factsW (mt32 (mt8 (mt1 (mt1 (mt1 mh)))))) MM.out (H.cal (mt32 (mt8 (mt1 (mt1 mh))))) (by omega) H4.out).mono ?_)
  rintro e w8 ⟨rfl, hb⟩
  replace H := H.below hb
  clear hb
  have cc0 := H.cell (w.heap.size + 1) 0 (.bool (c.o 0)) mh
  have cc1 := H.cell (w.heap.size + 1) 1 (.bool (c.o 1)) (mt1 mh)
  have cc2 := H.cell (w.heap.size + 1) 2 (.bool (c.o 2)) (mt1 (mt1 mh))
  have cc3 := H.cell (w.heap.size + 1) 3 (.bool (c.o 3)) (mt1 (mt1 (mt1 mh)))
  have cc4 := H.cell (w.heap.size + 1) 4 (.bool (c.o 4)) (mt1 (mt1 (mt1 (mt1 mh))))
  have cc5 := H.cell (w.heap.size + 1) 5 (.bool (c.o 5)) (mt1 (mt1 (mt1 (mt1 (mt1 mh)))))
  have cc6 := H.cell (w.heap.size + 1) 6 (.bool (c.o 6)) (mt1 (mt1 (mt1 (mt1 (mt1 (mt1 mh))))))
  have cc7 := H.cell (w.heap.size + 1) 7 (.slice aR c.nr cR) (mt1 (mt1 (mt1 (mt1 (mt1 (mt1 (mt1 mh)))))))
  have cc8 := H.cell (w.heap.size + 1) 8 (.slice aD c.nd cD) (mt8 mh)
  have lc := H.lt (w.heap.size + 1) 0 (.bool (c.o 0)) mh
  repeat' (first | simp only [List.append_eq, List.cons_append, List.nil_append] | go_values | go_skip | go_guarded | go_step | go_upon)
  clear cc0 cc1 cc2 cc3 cc4 cc5 cc6 cc7 cc8 lc
  (with_reducible refine (to_is14 c aR cR aD cD n (k % 5) x 0 _ (H.factsW (mt32 (mt8 (mt1 (mt1 (mt1 mh)))))) MM.out (H.cal (mt32 (mt8 (mt1 (mt1 mh))))) (by omega) H5.out).mono ?_)
  rintro e w9 ⟨rfl, hb⟩
  replace H := H.below hb
  clear hb
  have cc0 := H.cell (w.heap.size + 1) 0 (.bool (c.o 0)) mh
  have cc1 := H.cell (w.heap.size + 1) 1 (.bool (c.o 1)) (mt1 mh)
  have cc2 := H.cell (w.heap.size + 1) 2 (.bool (c.o 2)) (mt1 (mt1 mh))
  have cc3 := H.cell (w.heap.size + 1) 3 (.bool (c.o 3)) (mt1 (mt1 (mt1 mh)))
  have cc4 := H.cell (w.heap.size + 1) 4 (.bool (c.o 4)) (mt1 (mt1 (mt1 (mt1 mh))))
  have cc5 := H.cell (w.heap.size + 1) 5 (.bool (c.o 5)) (mt1 (mt1 (mt1 (mt1 (mt1 mh)))))
  have cc6 := H.cell (w.heap.size + 1) 6 (.bool (c.o 6)) (mt1 (mt1 (mt1 (mt1 (mt1 (mt1 mh))))))
  have cc7 := H.cell (w.heap.size + 1) 7 (.slice aR c.nr cR) (mt1 (mt1 (mt1 (mt1 (mt1 (mt1 (mt1 mh)))))))
  have cc8 := H.cell (w.heap.size + 1) 8 (.slice aD c.nd cD) (mt8 mh)
  have lc := H.lt (w.heap.size + 1) 0 (.bool (c.o 0)) mh
  repeat' (first | simp only [List.append_eq, List.cons_append, List.nil_append] | go_values | go_skip | go_guarded | go_step | go_upon)
  clear cc0 cc1 cc2 cc3 cc4 cc5 cc6 cc7 cc8 lc
  (with_reducible refine (to_is14 c aR cR aD cD x (k % 5) x 0 _ (H.factsW (mt32 (mt8 (mt1 (mt1 (mt1 mh)))))) MM.out (H.cal (mt32 (mt8 (mt1 (mt1 mh))))) bx H6.out).mono ?_)
  rintro e w10 ⟨rfl, hb⟩
  replace H := H.below hb
  clear hb
  repeat' (first | simp only [List.append_eq, List.cons_append, List.nil_append] | go_values | go_skip | go_guarded | go_step | go_upon)
  go_ret
  exact ⟨rfl, H.old⟩

set_option maxHeartbeats 8000000 in
set_option maxRecDepth 100000 in
theorem rorises_BCf (c : Ca) (aR : Option Addr) (cR : Nat) (aD : Option Addr) (cD : Nat) (n z k a b p q i f : Int) (w : World) (hL : FactsW w) (hCc : CalAt w c aR cR aD cD) (bz : 0 ≤ z ∧ z < 256) (bk : 0 ≤ k ∧ k < 256) (hf : decide (c.nr ≤ 12 ∧ c.nd ≤ 60) = true) (hS : c.Small) (hM : c.May) (hd : decide (1 ≤ n ∧ n ≤ 3652059) = true) (nb : 1 ≤ n ∧ n ≤ 3652059) (hr : n + z ≤ 3652059) (h1 : StepIs c 1 n a 0) (h2 : StepIs c 1 (n + z) b f) (h3 : StepIs c (-1) n p 0) (h4 : StepIs c (-1) (n + z) q 0) (h5 : ToIs c n (k % 5) 0 i) (kf : (f == 0) = false) (ki : (i == 0) = false) (hpq : decide (p > q) = false) :
    Calls Tryd.prog 6 #[.agg #[.bool (c.o 0), .bool (c.o 1), .bool (c.o 2), .bool (c.o 3), .bool (c.o 4), .bool (c.o 5), .bool (c.o 6), .slice aR c.nr cR, .slice aD c.nd cD, .int .i64 n, .int .u8 z, .int .u8 k]] w fun e w' => e = .returned (.bool true) ∧ Below w.heap.size w w' := by
  have H := ((Held.start w).add (f := factsWF) hL).add (f := calF c aR cR aD cD) hCc
  clear hL hCc
  have t0 : decide (n + z > 3652059) = false := decide_eq_false (by omega)
  have zf : (f != 0) = true := by simpa using kf
  have zi : (i != 0) = true := by simpa using ki
  have HF := Lib.hid hf
  have HZ := Lib.hid hS
  have MM := Lib.hid hM
  have HD := Lib.hid hd
  have H1 := Lib.hid h1
  have H2 := Lib.hid h2
  have H3 := Lib.hid h3
  have H4 := Lib.hid h4
  have H5 := Lib.hid h5
  clear hf hS hM hd h1 h2 h3 h4 h5
  go_enter Tryd.func6, Tryd.ntmps6
  go_wp2_with fail
  replace H := ((H.box_12 (w.heap.size) (.bool (c.o 0)) (.bool (c.o 1)) (.bool (c.o 2)) (.bool (c.o 3)) (.bool (c.o 4)) (.bool (c.o 5)) (.bool (c.o 6)) (.slice aR c.nr cR) (.slice aD c.nd cD) (.int .i64 n) (.int .u8 z) (.int .u8 k) 50 rfl).box_9 (w.heap.size + 1) (.bool (c.o 0)) (.bool (c.o 1)) (.bool (c.o 2)) (.bool (c.o 3)) (.bool (c.o 4)) (.bool (c.o 5)) (.bool (c.o 6)) (.slice aR c.nr cR) (.slice aD c.nd cD) 26 (by simp))
  (with_reducible refine (roshown_any _ (H.factsW (mt32 (mt8 (mt1 (mt1 (mt1 mh))))))).mono ?_)
  rintro e w1 ⟨rfl, hb⟩
  replace H := H.below hb
  clear hb
  have cc0 := H.cell (w.heap.size + 1) 0 (.bool (c.o 0)) mh
  have cc1 := H.cell (w.heap.size + 1) 1 (.bool (c.o 1)) (mt1 mh)
  have cc2 := H.cell (w.heap.size + 1) 2 (.bool (c.o 2)) (mt1 (mt1 mh))
  have cc3 := H.cell (w.heap.size + 1) 3 (.bool (c.o 3)) (mt1 (mt1 (mt1 mh)))
  have cc4 := H.cell (w.heap.size + 1) 4 (.bool (c.o 4)) (mt1 (mt1 (mt1 (mt1 mh))))
  have cc5 := H.cell (w.heap.size + 1) 5 (.bool (c.o 5)) (mt1 (mt1 (mt1 (mt1 (mt1 mh)))))
  have cc6 := H.cell (w.heap.size + 1) 6 (.bool (c.o 6)) (mt1 (mt1 (mt1 (mt1 (mt1 (mt1 mh))))))
  have cc7 := H.cell (w.heap.size + 1) 7 (.slice aR c.nr cR) (mt1 (mt1 (mt1 (mt1 (mt1 (mt1 (mt1 mh)))))))
  have cc8 := H.cell (w.heap.size + 1) 8 (.slice aD c.nd cD) (mt8 mh)
  have lc := H.lt (w.heap.size + 1) 0 (.bool (c.o 0)) mh
  go_wp2_with fail
  clear cc0 cc1 cc2 cc3 cc4 cc5 cc6 cc7 cc8 lc
  (with_reducible refine (few_any c aR cR aD cD true _ HF.out).mono ?_)
  rintro e w2 ⟨rfl, hb⟩
  replace H := H.below hb
  clear hb
  have cc0 := H.cell (w.heap.size + 1) 0 (.bool (c.o 0)) mh
  have cc1 := H.cell (w.heap.size + 1) 1 (.bool (c.o 1)) (mt1 mh)
  have cc2 := H.cell (w.heap.size + 1) 2 (.bool (c.o 2)) (mt1 (mt1 mh))
  have cc3 := H.cell (w.heap.size + 1) 3 (.bool (c.o 3)) (mt1 (mt1 (mt1 mh)))
  have cc4 := H.cell (w.heap.size + 1) 4 (.bool (c.o 4)) (mt1 (mt1 (mt1 (mt1 mh))))
  have cc5 := H.cell (w.heap.size + 1) 5 (.bool (c.o 5)) (mt1 (mt1 (mt1 (mt1 (mt1 mh)))))
  have cc6 := H.cell (w.heap.size + 1) 6 (.bool (c.o 6)) (mt1 (mt1 (mt1 (mt1 (mt1 (mt1 mh))))))
  have cc7 := H.cell (w.heap.size + 1) 7 (.slice aR c.nr cR) (mt1 (mt1 (mt1 (mt1 (mt1 (mt1 (mt1 mh)))))))
  have cc8 := H.cell (w.heap.size + 1) 8 (.slice aD c.nd cD) (mt8 mh)
  have lc := H.lt (w.heap.size + 1) 0 (.bool (c.o 0)) mh
  go_wp2_with fail
  clear cc0 cc1 cc2 cc3 cc4 cc5 cc6 cc7 cc8 lc
  (with_reducible refine (rcmay_any c aR cR aD cD true _ HZ.out (H.cal (mt32 (mt8 (mt1 (mt1 mh))))) ⟨fun _ => MM.out, fun _ => rfl⟩).mono ?_)
  rintro e w3 ⟨rfl, hb⟩
  replace H := H.below hb
  clear hb
  have cc0 := H.cell (w.heap.size + 1) 0 (.bool (c.o 0)) mh
  have cc1 := H.cell (w.heap.size + 1) 1 (.bool (c.o 1)) (mt1 mh)
  have cc2 := H.cell (w.heap.size + 1) 2 (.bool (c.o 2)) (mt1 (mt1 mh))
  have cc3 := H.cell (w.heap.size + 1) 3 (.bool (c.o 3)) (mt1 (mt1 (mt1 mh)))
  have cc4 := H.cell (w.heap.size + 1) 4 (.bool (c.o 4)) (mt1 (mt1 (mt1 (mt1 mh))))
  have cc5 := H.cell (w.heap.size + 1) 5 (.bool (c.o 5)) (mt1 (mt1 (mt1 (mt1 (mt1 mh)))))
  have cc6 := H.cell (w.heap.size + 1) 6 (.bool (c.o 6)) (mt1 (mt1 (mt1 (mt1 (mt1 (mt1 mh))))))
  have cc7 := H.cell (w.heap.size + 1) 7 (.slice aR c.nr cR) (mt1 (mt1 (mt1 (mt1 (mt1 (mt1 (mt1 mh)))))))
  have cc8 := H.cell (w.heap.size + 1) 8 (.slice aD c.nd cD) (mt8 mh)
  have lc := H.lt (w.heap.size + 1) 0 (.bool (c.o 0)) mh
  go_wp2_with fail
  clear cc0 cc1 cc2 cc3 cc4 cc5 cc6 cc7 cc8 lc
  (with_reducible refine (Calls.same (rday13_is n true _ HD.out)).mono ?_)
  rintro e w4 ⟨rfl, hb⟩
  replace H := H.below hb
  clear hb
  have cc0 := H.cell (w.heap.size + 1) 0 (.bool (c.o 0)) mh
  have cc1 := H.cell (w.heap.size + 1) 1 (.bool (c.o 1)) (mt1 mh)
  have cc2 := H.cell (w.heap.size + 1) 2 (.bool (c.o 2)) (mt1 (mt1 mh))
  have cc3 := H.cell (w.heap.size + 1) 3 (.bool (c.o 3)) (mt1 (mt1 (mt1 mh)))
  have cc4 := H.cell (w.heap.size + 1) 4 (.bool (c.o 4)) (mt1 (mt1 (mt1 (mt1 mh))))
  have cc5 := H.cell (w.heap.size + 1) 5 (.bool (c.o 5)) (mt1 (mt1 (mt1 (mt1 (mt1 mh)))))
  have cc6 := H.cell (w.heap.size + 1) 6 (.bool (c.o 6)) (mt1 (mt1 (mt1 (mt1 (mt1 (mt1 mh))))))
  have cc7 := H.cell (w.heap.size + 1) 7 (.slice aR c.nr cR) (mt1 (mt1 (mt1 (mt1 (mt1 (mt1 (mt1 mh)))))))
  have cc8 := H.cell (w.heap.size + 1) 8 (.slice aD c.nd cD) (mt8 mh)
  have lc := H.lt (w.heap.size + 1) 0 (.bool (c.o 0)) mh
  go_wp2_with fail
  clear cc0 cc1 cc2 cc3 cc4 cc5 cc6 cc7 cc8 lc
  (with_reducible refine (next_is c aR cR aD cD n a 0 _ (H.factsW (mt32 (mt8 (mt1 (mt1 (mt1 mh)))))) MM.out (H.cal (mt32 (mt8 (mt1 (mt1 mh))))) (by omega) H1.out).mono ?_)
  rintro e w5 ⟨rfl, hb⟩
  replace H := H.below hb
  clear hb
  have cc0 := H.cell (w.heap.size + 1) 0 (.bool (c.o 0)) mh
  have cc1 := H.cell (w.heap.size + 1) 1 (.bool (c.o 1)) (mt1 mh)
  have cc2 := H.cell (w.heap.size + 1) 2 (.bool (c.o 2)) (mt1 (mt1 mh))
  have cc3 := H.cell (w.heap.size + 1) 3 (.bool (c.o 3)) (mt1 (mt1 (mt1 mh)))
  have cc4 := H.cell (w.heap.size + 1) 4 (.bool (c.o 4)) (mt1 (mt1 (mt1 (mt1 mh))))
  have cc5 := H.cell (w.heap.size + 1) 5 (.bool (c.o 5)) (mt1 (mt1 (mt1 (mt1 (mt1 mh)))))
  have cc6 := H.cell (w.heap.size + 1) 6 (.bool (c.o 6)) (mt1 (mt1 (mt1 (mt1 (mt1 (mt1 mh))))))
  have cc7 := H.cell (w.heap.size + 1) 7 (.slice aR c.nr cR) (mt1 (mt1 (mt1 (mt1 (mt1 (mt1 (mt1 mh)))))))
  have cc8 := H.cell (w.heap.size + 1) 8 (.slice aD c.nd cD) (mt8 mh)
  have lc := H.lt (w.heap.size + 1) 0 (.bool (c.o 0)) mh
  go_wp2_with fail
  clear cc0 cc1 cc2 cc3 cc4 cc5 cc6 cc7 cc8 lc
  (with_reducible refine (next_is c aR cR aD cD (n + z) b f _ (H.factsW (mt32 (mt8 (mt1 (mt1 (mt1 mh)))))) MM.out (H.cal (mt32 (mt8 (mt1 (mt1 mh))))) (by omega) H2.out).mono ?_)
  rintro e w6 ⟨rfl, hb⟩
  replace H := H.below hb
  clear hb
  have cc0 := H.cell (w.heap.size + 1) 0 (.bool (c.o 0)) mh
  have cc1 := H.cell (w.heap.size + 1) 1 (.bool (c.o 1)) (mt1 mh)
  have cc2 := H.cell (w.heap.size + 1) 2 (.bool (c.o 2)) (mt1 (mt1 mh))
  have cc3 := H.cell (w.heap.size + 1) 3 (.bool (c.o 3)) (mt1 (mt1 (mt1 mh)))
  have cc4 := H.cell (w.heap.size + 1) 4 (.bool (c.o 4)) (mt1 (mt1 (mt1 (mt1 mh))))
  have cc5 := H.cell (w.heap.size + 1) 5 (.bool (c.o 5)) (mt1 (mt1 (mt1 (mt1 (mt1 mh)))))
  have cc6 := H.cell (w.heap.size + 1) 6 (.bool (c.o 6)) (mt1 (mt1 (mt1 (mt1 (mt1 (mt1 mh))))))
  have cc7 := H.cell (w.heap.size + 1) 7 (.slice aR c.nr cR) (mt1 (mt1 (mt1 (mt1 (mt1 (mt1 (mt1 mh)))))))
  have cc8 := H.cell (w.heap.size + 1) 8 (.slice aD c.nd cD) (mt8 mh)
  have lc := H.lt (w.heap.size + 1) 0 (.bool (c.o 0)) mh
  go_wp2_with fail
  clear cc0 cc1 cc2 cc3 cc4 cc5 cc6 cc7 cc8 lc
  (with_reducible refine (prev_is c aR cR aD cD n p 0 _ (H.factsW (mt32 (mt8 (mt1 (mt1 (mt1 mh)))))) MM.out (H.cal (mt32 (mt8 (mt1 (mt1 mh))))) (by omega) H3.out).mono ?_)
  rintro e w7 ⟨rfl, hb⟩
  replace H := H.below hb
  clear hb
  have cc0 := H.cell (w.heap.size + 1) 0 (.bool (c.o 0)) mh
  have cc1 := H.cell (w.heap.size + 1) 1 (.bool (c.o 1)) (mt1 mh)
  have cc2 := H.cell (w.heap.size + 1) 2 (.bool (c.o 2)) (mt1 (mt1 mh))
  have cc3 := H.cell (w.heap.size + 1) 3 (.bool (c.o 3)) (mt1 (mt1 (mt1 mh)))
  have cc4 := H.cell (w.heap.size + 1) 4 (.bool (c.o 4)) (mt1 (mt1 (mt1 (mt1 mh))))
  have cc5 := H.cell (w.heap.size + 1) 5 (.bool (c.o 5)) (mt1 (mt1 (mt1 (mt1 (mt1 mh)))))
  have cc6 := H.cell (w.heap.size + 1) 6 (.bool (c.o 6)) (mt1 (mt1 (mt1 (mt1 (mt1 (mt1 mh))))))
  have cc7 := H.cell (w.heap.size + 1) 7 (.slice aR c.nr cR) (mt1 (mt1 (mt1 (mt1 (mt1 (mt1 (mt1 mh)))))))
  have cc8 := H.cell (w.heap.size + 1) 8 (.slice aD c.nd cD) (mt8 mh)
  have lc := H.lt (w.heap.size + 1) 0 (.bool (c.o 0)) mh
  go_wp2_with fail
  clear cc0 cc1 cc2 cc3 cc4 cc5 cc6 cc7 cc8 lc
  (with_reducible refine (prev_is c aR cR aD cD (n + z) q 0 _ (H.factsW (mt32 (mt8 (mt1 (mt1 (mt1 mh)))))) MM.out (H.cal (mt32 (mt8 (mt1 (mt1 mh))))) (by omega) H4.out).mono ?_)
  rintro e w8 ⟨rfl, hb⟩
  replace H := H.below hb
  clear hb
  have cc0 := H.cell (w.heap.size + 1) 0 (.bool (c.o 0)) mh
  have cc1 := H.cell (w.heap.size + 1) 1 (.bool (c.o 1)) (mt1 mh)
  have cc2 := H.cell (w.heap.size + 1) 2 (.bool (c.o 2)) (mt1 (mt1 mh))
  have cc3 := H.cell (w.heap.size + 1) 3 (.bool (c.o 3)) (mt1 (mt1 (mt1 mh)))
  have cc4 := H.cell (w.heap.size + 1) 4 (.bool (c.o 4)) (mt1 (mt1 (mt1 (mt1 mh))))
  have cc5 := H.cell (w.heap.size + 1) 5 (.bool (c.o 5)) (mt1 (mt1 (mt1 (mt1 (mt1 mh)))))
  have cc6 := H.cell (w.heap.size + 1) 6 (.bool (c.o 6)) (mt1 (mt1 (mt1 (mt1 (mt1 (mt1 mh))))))
  have cc7 := H.cell (w.heap.size + 1) 7 (.slice aR c.nr cR) (mt1 (mt1 (mt1 (mt1 (mt1 (mt1 (mt1 mh)))))))
  have cc8 := H.cell (w.heap.size + 1) 8 (.slice aD c.nd cD) (mt8 mh)
  have lc := H.lt (w.heap.size + 1) 0 (.bool (c.o 0)) mh
  repeat' (first | simp only [List.append_eq, List.cons_append, List.nil_append] | go_values | go_skip | go_guarded | go_step | go_upon)
  clear cc0 cc1 cc2 cc3 cc4 cc5 cc6 cc7 cc8 lc
  (with_reducible refine (to_is14 c aR cR aD cD n (k % 5) 0 i _ (H.factsW (mt32 (mt8 (mt1 (mt1 (mt1 mh)))))) MM.out (H.cal (mt32 (mt8 (mt1 (mt1 mh))))) (by omega) H5.out).mono ?_)
  rintro e w9 ⟨rfl, hb⟩
  replace H := H.below hb
  clear hb
  repeat' (first | simp only [List.append_eq, List.cons_append, List.nil_append] | go_values | go_skip | go_guarded | go_step | go_upon)
  go_ret
  exact ⟨rfl, H.old⟩

set_option maxHeartbeats 8000000 in
set_option maxRecDepth 100000 in
theorem rorises_CAt (c : Ca) (aR : Option Addr) (cR : Nat) (aD : Option Addr) (cD : Nat) (n z k a b p q x g h : Int) (w : World) (hL : FactsW w) (hCc : CalAt w c aR cR aD cD) (bz : 0 ≤ z ∧ z < 256) (bk : 0 ≤ k ∧ k < 256) (hf : decide (c.nr ≤ 12 ∧ c.nd ≤ 60) = true) (hS : c.Small) (hM : c.May) (hd : decide (1 ≤ n ∧ n ≤ 3652059) = true) (nb : 1 ≤ n ∧ n ≤ 3652059) (hr : n + z ≤ 3652059) (h1 : StepIs c 1 n a 0) (h2 : StepIs c 1 (n + z) b 0) (h3 : StepIs c (-1) n p g) (h4 : StepIs c (-1) (n + z) q h) (h5 : ToIs c n (k % 5) x 0) (kg : (g == 0) = false) (h6 : ToIs c x (k % 5) x 0) (bx : -9223372036854775808 ≤ x ∧ x < 9223372036854775808) (hab : decide (a > b) = false) :
    Calls Tryd.prog 6 #[.agg #[.bool (c.o 0), .bool (c.o 1), .bool (c.o 2), .bool (c.o 3), .bool (c.o 4), .bool (c.o 5), .bool (c.o 6), .slice aR c.nr cR, .slice aD c.nd cD, .int .i64 n, .int .u8 z, .int .u8 k]] w fun e w' => e = .returned (.bool true) ∧ Below w.heap.size w w' := by
  have H := ((Held.start w).add (f := factsWF) hL).add (f := calF c aR cR aD cD) hCc
  clear hL hCc
  have t0 : decide (n + z > 3652059) = false := decide_eq_false (by omega)
  have zg : (g != 0) = true := by simpa using kg
  have HF := Lib.hid hf
  have HZ := Lib.hid hS
  have MM := Lib.hid hM
  have HD := Lib.hid hd
  have H1 := Lib.hid h1
  have H2 := Lib.hid h2
  have H3 := Lib.hid h3
  have H4 := Lib.hid h4
  have H5 := Lib.hid h5
  have H6 := Lib.hid h6
  clear hf hS hM hd h1 h2 h3 h4 h5 h6
  go_enter Tryd.func6, Tryd.ntmps6
  go_wp2_with fail
  replace H := ((H.box_12 (w.heap.size) (.bool (c.o 0)) (.bool (c.o 1)) (.bool (c.o 2)) (.bool (c.o 3)) (.bool (c.o 4)) (.bool (c.o 5)) (.bool (c.o 6)) (.slice aR c.nr cR) (.slice aD c.nd cD) (.int .i64 n) (.int .u8 z) (.int .u8 k) 50 rfl).box_9 (w.heap.size + 1) (.bool (c.o 0)) (.bool (c.o 1)) (.bool (c.o 2)) (.bool (c.o 3)) (.bool (c.o 4)) (.bool (c.o 5)) (.bool (c.o 6)) (.slice aR c.nr cR) (.slice aD c.nd cD) 26 (by simp))
  (with_reducible refine (roshown_any _ (H.factsW (mt32 (mt8 (mt1 (mt1 (mt1 mh))))))).mono ?_)
  rintro e w1 ⟨rfl, hb⟩
  replace H := H.below hb
  clear hb
  have cc0 := H.cell (w.heap.size + 1) 0 (.bool (c.o 0)) mh
  have cc1 := H.cell (w.heap.size + 1) 1 (.bool (c.o 1)) (mt1 mh)
  have cc2 := H.cell (w.heap.size + 1) 2 (.bool (c.o 2)) (mt1 (mt1 mh))
  have cc3 := H.cell (w.heap.size + 1) 3 (.bool (c.o 3)) (mt1 (mt1 (mt1 mh)))
  have cc4 := H.cell (w.heap.size + 1) 4 (.bool (c.o 4)) (mt1 (mt1 (mt1 (mt1 mh))))
  have cc5 := H.cell (w.heap.size + 1) 5 (.bool (c.o 5)) (mt1 (mt1 (mt1 (mt1 (mt1 mh)))))
  have cc6 := H.cell (w.heap.size + 1) 6 (.bool (c.o 6)) (mt1 (mt1 (mt1 (mt1 (mt1 (mt1 mh))))))
  have cc7 := H.cell (w.heap.size + 1) 7 (.slice aR c.nr cR) (mt1 (mt1 (mt1 (mt1 (mt1 (mt1 (mt1 mh)))))))
  have cc8 := H.cell (w.heap.size + 1) 8 (.slice aD c.nd cD) (mt8 mh)
  have lc := H.lt (w.heap.size + 1) 0 (.bool (c.o 0)) mh
  go_wp2_with fail
  clear cc0 cc1 cc2 cc3 cc4 cc5 cc6 cc7 cc8 lc
  (with_reducible refine (few_any c aR cR aD cD true _ HF.out).mono ?_)
  rintro e w2 ⟨rfl, hb⟩
  replace H := H.below hb
  clear hb
  have cc0 := H.cell (w.heap.size + 1) 0 (.bool (c.o 0)) mh
  have cc1 := H.cell (w.heap.size + 1) 1 (.bool (c.o 1)) (mt1 mh)
  have cc2 := H.cell (w.heap.size + 1) 2 (.bool (c.o 2)) (mt1 (mt1 mh))
  have cc3 := H.cell (w.heap.size + 1) 3 (.bool (c.o 3)) (mt1 (mt1 (mt1 mh)))
  have cc4 := H.cell (w.heap.size + 1) 4 (.bool (c.o 4)) (mt1 (mt1 (mt1 (mt1 mh))))
  have cc5 := H.cell (w.heap.size + 1) 5 (.bool (c.o 5)) (mt1 (mt1 (mt1 (mt1 (mt1 mh)))))
  have cc6 := H.cell (w.heap.size + 1) 6 (.bool (c.o 6)) (mt1 (mt1 (mt1 (mt1 (mt1 (mt1 mh))))))
  have cc7 := H.cell (w.heap.size + 1) 7 (.slice aR c.nr cR) (mt1 (mt1 (mt1 (mt1 (mt1 (mt1 (mt1 mh)))))))
  have cc8 := H.cell (w.heap.size + 1) 8 (.slice aD c.nd cD) (mt8 mh)
  have lc := H.lt (w.heap.size + 1) 0 (.bool (c.o 0)) mh
  go_wp2_with fail
  clear cc0 cc1 cc2 cc3 cc4 cc5 cc6 cc7 cc8 lc
  (with_reducible refine (rcmay_any c aR cR aD cD true _ HZ.out (H.cal (mt32 (mt8 (mt1 (mt1 mh))))) ⟨fun _ => MM.out, fun _ => rfl⟩).mono ?_)
  rintro e w3 ⟨rfl, hb⟩
  replace H := H.below hb
  clear hb
  have cc0 := H.cell (w.heap.size + 1) 0 (.bool (c.o 0)) mh
  have cc1 := H.cell (w.heap.size + 1) 1 (.bool (c.o 1)) (mt1 mh)
  have cc2 := H.cell (w.heap.size + 1) 2 (.bool (c.o 2)) (mt1 (mt1 mh))
  have cc3 := H.cell (w.heap.size + 1) 3 (.bool (c.o 3)) (mt1 (mt1 (mt1 mh)))
  have cc4 := H.cell (w.heap.size + 1) 4 (.bool (c.o 4)) (mt1 (mt1 (mt1 (mt1 mh))))
  have cc5 := H.cell (w.heap.size + 1) 5 (.bool (c.o 5)) (mt1 (mt1 (mt1 (mt1 (mt1 mh)))))
  have cc6 := H.cell (w.heap.size + 1) 6 (.bool (c.o 6)) (mt1 (mt1 (mt1 (mt1 (mt1 (mt1 mh))))))
  have cc7 := H.cell (w.heap.size + 1) 7 (.slice aR c.nr cR) (mt1 (mt1 (mt1 (mt1 (mt1 (mt1 (mt1 mh)))))))
  have cc8 := H.cell (w.heap.size + 1) 8 (.slice aD c.nd cD) (mt8 mh)
  have lc := H.lt (w.heap.size + 1) 0 (.bool (c.o 0)) mh
  go_wp2_with fail
  clear cc0 cc1 cc2 cc3 cc4 cc5 cc6 cc7 cc8 lc
  (with_reducible refine (Calls.same (rday13_is n true _ HD.out)).mono ?_)
  rintro e w4 ⟨rfl, hb⟩
  replace H := H.below hb
  clear hb
  have cc0 := H.cell (w.heap.size + 1) 0 (.bool (c.o 0)) mh
  have cc1 := H.cell (w.heap.size + 1) 1 (.bool (c.o 1)) (mt1 mh)
  have cc2 := H.cell (w.heap.size + 1) 2 (.bool (c.o 2)) (mt1 (mt1 mh))
  have cc3 := H.cell (w.heap.size + 1) 3 (.bool (c.o 3)) (mt1 (mt1 (mt1 mh)))
  have cc4 := H.cell (w.heap.size + 1) 4 (.bool (c.o 4)) (mt1 (mt1 (mt1 (mt1 mh))))
  have cc5 := H.cell (w.heap.size + 1) 5 (.bool (c.o 5)) (mt1 (mt1 (mt1 (mt1 (mt1 mh)))))
  have cc6 := H.cell (w.heap.size + 1) 6 (.bool (c.o 6)) (mt1 (mt1 (mt1 (mt1 (mt1 (mt1 mh))))))
  have cc7 := H.cell (w.heap.size + 1) 7 (.slice aR c.nr cR) (mt1 (mt1 (mt1 (mt1 (mt1 (mt1 (mt1 mh)))))))
  have cc8 := H.cell (w.heap.size + 1) 8 (.slice aD c.nd cD) (mt8 mh)
  have lc := H.lt (w.heap.size + 1) 0 (.bool (c.o 0)) mh
  go_wp2_with fail
  clear cc0 cc1 cc2 cc3 cc4 cc5 cc6 cc7 cc8 lc
  (with_reducible refine (next_is c aR cR aD cD n a 0 _ (H.factsW (mt32 (mt8 (mt1 (mt1 (mt1 mh)))))) MM.out (H.cal (mt32 (mt8 (mt1 (mt1 mh))))) (by omega) H1.out).mono ?_)
  rintro e w5 ⟨rfl, hb⟩
  replace H := H.below hb
  clear hb
  have cc0 := H.cell (w.heap.size + 1) 0 (.bool (c.o 0)) mh
  have cc1 := H.cell (w.heap.size + 1) 1 (.bool (c.o 1)) (mt1 mh)
  have cc2 := H.cell (w.heap.size + 1) 2 (.bool (c.o 2)) (mt1 (mt1 mh))
  have cc3 := H.cell (w.heap.size + 1) 3 (.bool (c.o 3)) (mt1 (mt1 (mt1 mh)))
  have cc4 := H.cell (w.heap.size + 1) 4 (.bool (c.o 4)) (mt1 (mt1 (mt1 (mt1 mh))))
  have cc5 := H.cell (w.heap.size + 1) 5 (.bool (c.o 5)) (mt1 (mt1 (mt1 (mt1 (mt1 mh)))))
  have cc6 := H.cell (w.heap.size + 1) 6 (.bool (c.o 6)) (mt1 (mt1 (mt1 (mt1 (mt1 (mt1 mh))))))
  have cc7 := H.cell (w.heap.size + 1) 7 (.slice aR c.nr cR) (mt1 (mt1 (mt1 (mt1 (mt1 (mt1 (mt1 mh)))))))
  have cc8 := H.cell (w.heap.size + 1) 8 (.slice aD c.nd cD) (mt8 mh)
  have lc := H.lt (w.heap.size + 1) 0 (.bool (c.o 0)) mh
  go_wp2_with fail
  clear cc0 cc1 cc2 cc3 cc4 cc5 cc6 cc7 cc8 lc
  (with_reducible refine (next_is c aR cR aD cD (n + z) b 0 _ (H.factsW (mt32 (mt8 (mt1 (mt1 (mt1 mh)))))) MM.out (H.cal (mt32 (mt8 (mt1 (mt1 mh))))) (by omega) H2.out).mono ?_)
  rintro e w6 ⟨rfl, hb⟩
  replace H := H.below hb
  clear hb
  have cc0 := H.cell (w.heap.size + 1) 0 (.bool (c.o 0)) mh
  have cc1 := H.cell (w.heap.size + 1) 1 (.bool (c.o 1)) (mt1 mh)
  have cc2 := H.cell (w.heap.size + 1) 2 (.bool (c.o 2)) (mt1 (mt1 mh))
  have cc3 := H.cell (w.heap.size + 1) 3 (.bool (c.o 3)) (mt1 (mt1 (mt1 mh)))
  have cc4 := H.cell (w.heap.size + 1) 4 (.bool (c.o 4)) (mt1 (mt1 (mt1 (mt1 mh))))
  have cc5 := H.cell (w.heap.size + 1) 5 (.bool (c.o 5)) (mt1 (mt1 (mt1 (mt1 (mt1 mh)))))
  have cc6 := H.cell (w.heap.size + 1) 6 (.bool (c.o 6)) (mt1 (mt1 (mt1 (mt1 (mt1 (mt1 mh))))))
  have cc7 := H.cell (w.heap.size + 1) 7 (.slice aR c.nr cR) (mt1 (mt1 (mt1 (mt1 (mt1 (mt1 (mt1 mh)))))))
  have cc8 := H.cell (w.heap.size + 1) 8 (.slice aD c.nd cD) (mt8 mh)
  have lc := H.lt (w.heap.size + 1) 0 (.bool (c.o 0)) mh
  go_wp2_with fail
  clear cc0 cc1 cc2 cc3 cc4 cc5 cc6 cc7 cc8 lc
  (with_reducible refine (prev_is c aR cR aD cD n p g _ (H.factsW (mt32 (mt8 (mt1 (mt1 (mt1 mh)))))) MM.out (H.cal (mt32 (mt8 (mt1 (mt1 mh))))) (by omega) H3.out).mono ?_)
  rintro e w7 ⟨rfl, hb⟩
  replace H := H.below hb
  clear hb
  have cc0 := H.cell (w.heap.size + 1) 0 (.bool (c.o 0)) mh
  have cc1 := H.cell (w.heap.size + 1) 1 (.bool (c.o 1)) (mt1 mh)
  have cc2 := H.cell (w.heap.size + 1) 2 (.bool (c.o 2)) (mt1 (mt1 mh))
  have cc3 := H.cell (w.heap.size + 1) 3 (.bool (c.o 3)) (mt1 (mt1 (mt1 mh)))
  have cc4 := H.cell (w.heap.size + 1) 4 (.bool (c.o 4)) (mt1 (mt1 (mt1 (mt1 mh))))
  have cc5 := H.cell (w.heap.size + 1) 5 (.bool (c.o 5)) (mt1 (mt1 (mt1 (mt1 (mt1 mh)))))
  have cc6 := H.cell (w.heap.size + 1) 6 (.bool (c.o 6)) (mt1 (mt1 (mt1 (mt1 (mt1 (mt1 mh))))))
  have cc7 := H.cell (w.heap.size + 1) 7 (.slice aR c.nr cR) (mt1 (mt1 (mt1 (mt1 (mt1 (mt1 (mt1 mh)))))))
  have cc8 := H.cell (w.heap.size + 1) 8 (.slice aD c.nd cD) (mt8 mh)
  have lc := H.lt (w.heap.size + 1) 0 (.bool (c.o 0)) mh
  go_wp2_with fail
  clear cc0 cc1 cc2 cc3 cc4 cc5 cc6 cc7 cc8 lc
  (with_reducible refine (prev_is c aR cR aD cD (n + z) q h _ (H.factsW (mt32 (mt8 (mt1 (mt1 (mt1 mh)))))) MM.out (H.cal (mt32 (mt8 (mt1 (mt1 mh))))) (by omega) H4.out).mono ?_)
  rintro e w8 ⟨rfl, hb⟩
  replace H := H.below hb
  clear hb
  have cc0 := H.cell (w.heap.size + 1) 0 (.bool (c.o 0)) mh
  have cc1 := H.cell (w.heap.size + 1) 1 (.bool (c.o 1)) (mt1 mh)
  have cc2 := H.cell (w.heap.size + 1) 2 (.bool (c.o 2)) (mt1 (mt1 mh))
  have cc3 := H.cell (w.heap.size + 1) 3 (.bool (c.o 3)) (mt1 (mt1 (mt1 mh)))
  have cc4 := H.cell (w.heap.size + 1) 4 (.bool (c.o 4)) (mt1 (mt1 (mt1 (mt1 mh))))
  have cc5 := H.cell (w.heap.size + 1) 5 (.bool (c.o 5)) (mt1 (mt1 (mt1 (mt1 (mt1 mh)))))
  have cc6 := H.cell (w.heap.size + 1) 6 (.bool (c.o 6)) (mt1 (mt1 (mt1 (mt1 (mt1 (mt1 mh))))))
  have cc7 := H.cell (w.heap.size + 1) 7 (.slice aR c.nr cR) (mt1 (mt1 (mt1 (mt1 (mt1 (mt1 (mt1 mh)))))))
  have cc8 := H.cell (w.heap.size + 1) 8 (.slice aD c.nd cD) (mt8 mh)
  have lc := H.lt (w.heap.size + 1) 0 (.bool (c.o 0)) mh
  repeat' (first | simp only [List.append_eq, List.cons_append, List.nil_append] | go_values | go_skip | go_guarded | go_step | go_upon)
  clear cc0 cc1 cc2 cc3 cc4 cc5 cc6 cc7 cc8 lc
  (with_reducible refine (to_is14 c aR cR aD cD n (k % 5) x 0 _ (H.factsW (mt32 (mt8 (mt1 (mt1 (mt1 mh)))))) MM.out (H.cal (mt32 (mt8 (mt1 (mt1 mh))))) (by omega) H5.out).mono ?_)
  rintro e w9 ⟨rfl, hb⟩
  replace H := H.below hb
  clear hb
  have cc0 := H.cell (w.heap.size + 1) 0 (.bool (c.o 0)) mh
  have cc1 := H.cell (w.heap.size + 1) 1 (.bool (c.o 1)) (mt1 mh)
  have cc2 := H.cell (w.heap.size + 1) 2 (.bool (c.o 2)) (mt1 (mt1 mh))
  have cc3 := H.cell (w.heap.size + 1) 3 (.bool (c.o 3)) (mt1 (mt1 (mt1 mh)))
  have cc4 := H.cell (w.heap.size + 1) 4 (.bool (c.o 4)) (mt1 (mt1 (mt1 (mt1 mh))))
  have cc5 := H.cell (w.heap.size + 1) 5 (.bool (c.o 5)) (mt1 (mt1 (mt1 (mt1 (mt1 mh)))))
  have cc6 := H.cell (w.heap.size + 1) 6 (.bool (c.o 6)) (mt1 (mt1 (mt1 (mt1 (mt1 (mt1 mh))))))
  have cc7 := H.cell (w.heap.size + 1) 7 (.slice aR c.nr cR) (mt1 (mt1 (mt1 (mt1 (mt1 (mt1 (mt1 mh)))))))
  have cc8 := H.cell (w.heap.size + 1) 8 (.slice aD c.nd cD) (mt8 mh)
  have lc := H.lt (w.heap.size + 1) 0 (.bool (c.o 0)) mh
  repeat' (first | simp only [List.append_eq, List.cons_append, List.nil_append] | go_values | go_skip | go_guarded | go_step | go_upon)
  clear cc0 cc1 cc2 cc3 cc4 cc5 cc6 cc7 cc8 lc
  (with_reducible refine (to_is14 c aR cR aD cD x (k % 5) x 0 _ (H.factsW (mt32 (mt8 (mt1 (mt1 (mt1 mh)))))) MM.out (H.cal (mt32 (mt8 (mt1 (mt1 mh))))) bx H6.out).mono ?_)
  rintro e w10 ⟨rfl, hb⟩
  replace H := H.below hb
  clear hb
  repeat' (first | simp only [List.append_eq, List.cons_append, List.nil_append] | go_values | go_skip | go_guarded | go_step | go_upon)
  go_ret
  exact ⟨rfl, H.old⟩

set_option maxHeartbeats 8000000 in
set_option maxRecDepth 100000 in
theorem rorises_CAf (c : Ca) (aR : Option Addr) (cR : Nat) (aD : Option Addr) (cD : Nat) (n z k a b p q i g h : Int) (w : World) (hL : FactsW w) (hCc : CalAt w c aR cR aD cD) (bz : 0 ≤ z ∧ z < 256) (bk : 0 ≤ k ∧ k < 256) (hf : decide (c.nr ≤ 12 ∧ c.nd ≤ 60) = true) (hS : c.Small) (hM : c.May) (hd : decide (1 ≤ n ∧ n ≤ 3652059) = true) (nb : 1 ≤ n ∧ n ≤ 3652059) (hr : n + z ≤ 3652059) (h1 : StepIs c 1 n a 0) (h2 : StepIs c 1 (n + z) b 0) (h3 : StepIs c (-1) n p g) (h4 : StepIs c (-1) (n + z) q h) (h5 : ToIs c n (k % 5) 0 i) (kg : (g == 0) = false) (ki : (i == 0) = false) (hab : decide (a > b) = false) :
    Calls Tryd.prog 6 #[.agg #[.bool (c.o 0), .bool (c.o 1), .bool (c.o 2), .bool (c.o 3), .bool (c.o 4), .bool (c.o 5), .bool (c.o 6), .slice aR c.nr cR, .slice aD c.nd cD, .int .i64 n, .int .u8 z, .int .u8 k]] w fun e w' => e = .returned (.bool true) ∧ Below w.heap.size w w' := by
  have H := ((Held.start w).add (f := factsWF) hL).add (f := calF c aR cR aD cD) hCc
  clear hL hCc
  have t0 : decide (n + z > 3652059) = false := decide_eq_false (by omega)
  have zg : (g != 0) = true := by simpa using kg
  have zi : (i != 0) = true := by simpa using ki
  have HF := Lib.hid hf
  have HZ := Lib.hid hS
  have MM := Lib.hid hM
  have HD := Lib.hid hd
  have H1 := Lib.hid h1
  have H2 := Lib.hid h2
  have H3 := Lib.hid h3
  have H4 := Lib.hid h4
  have H5 := Lib.hid h5
  clear hf hS hM hd h1 h2 h3 h4 h5
  go_enter Tryd.func6, Tryd.ntmps6
  go_wp2_with fail
  replace H := ((H.box_12 (w.heap.size) (.bool (c.o 0)) (.bool (c.o 1)) (.bool (c.o 2)) (.bool (c.o 3)) (.bool (c.o 4)) (.bool (c.o 5)) (.bool (c.o 6)) (.slice aR c.nr cR) (.slice aD c.nd cD) (.int .i64 n) (.int .u8 z) (.int .u8 k) 50 rfl).box_9 (w.heap.size + 1) (.bool (c.o 0)) (.bool (c.o 1)) (.bool (c.o 2)) (.bool (c.o 3)) (.bool (c.o 4)) (.bool (c.o 5)) (.bool (c.o 6)) (.slice aR c.nr cR) (.slice aD c.nd cD) 26 (by simp))
  (with_reducible refine (roshown_any _ (H.factsW (mt32 (mt8 (mt1 (mt1 (mt1 mh))))))).mono ?_)
  rintro e w1 ⟨rfl, hb⟩
  replace H := H.below hb
  clear hb
  have cc0 := H.cell (w.heap.size + 1) 0 (.bool (c.o 0)) mh
  have cc1 := H.cell (w.heap.size + 1) 1 (.bool (c.o 1)) (mt1 mh)
  have cc2 := H.cell (w.heap.size + 1) 2 (.bool (c.o 2)) (mt1 (mt1 mh))
  have cc3 := H.cell (w.heap.size + 1) 3 (.bool (c.o 3)) (mt1 (mt1 (mt1 mh)))
  have cc4 := H.cell (w.heap.size + 1) 4 (.bool (c.o 4)) (mt1 (mt1 (mt1 (mt1 mh))))
  have cc5 := H.cell (w.heap.size + 1) 5 (.bool (c.o 5)) (mt1 (mt1 (mt1 (mt1 (mt1 mh)))))
  have cc6 := H.cell (w.heap.size + 1) 6 (.bool (c.o 6)) (mt1 (mt1 (mt1 (mt1 (mt1 (mt1 mh))))))
  have cc7 := H.cell (w.heap.size + 1) 7 (.slice aR c.nr cR) (mt1 (mt1 (mt1 (mt1 (mt1 (mt1 (mt1 mh)))))))
  have cc8 := H.cell (w.heap.size + 1) 8 (.slice aD c.nd cD) (mt8 mh)
  have lc := H.lt (w.heap.size + 1) 0 (.bool (c.o 0)) mh
  go_wp2_with fail
  clear cc0 cc1 cc2 cc3 cc4 cc5 cc6 cc7 cc8 lc
  (with_reducible refine (few_any c aR cR aD cD true _ HF.out).mono ?_)
  rintro e w2 ⟨rfl, hb⟩
  replace H := H.below hb
  clear hb
  have cc0 := H.cell (w.heap.size + 1) 0 (.bool (c.o 0)) mh
  have cc1 := H.cell (w.heap.size + 1) 1 (.bool (c.o 1)) (mt1 mh)
  have cc2 := H.cell (w.heap.size + 1) 2 (.bool (c.o 2)) (mt1 (mt1 mh))
  have cc3 := H.cell (w.heap.size + 1) 3 (.bool (c.o 3)) (mt1 (mt1 (mt1 mh)))
  have cc4 := H.cell (w.heap.size + 1) 4 (.bool (c.o 4)) (mt1 (mt1 (mt1 (mt1 mh))))
  have cc5 := H.cell (w.heap.size + 1) 5 (.bool (c.o 5)) (mt1 (mt1 (mt1 (mt1 (mt1 mh)))))
  have cc6 := H.cell (w.heap.size + 1) 6 (.bool (c.o 6)) (mt1 (mt1 (mt1 (mt1 (mt1 (mt1 mh))))))
  have cc7 := H.cell (w.heap.size + 1) 7 (.slice aR c.nr cR) (mt1 (mt1 (mt1 (mt1 (mt1 (mt1 (mt1 mh)))))))
  have cc8 := H.cell (w.heap.size + 1) 8 (.slice aD c.nd cD) (mt8 mh)
  have lc := H.lt (w.heap.size + 1) 0 (.bool (c.o 0)) mh
  go_wp2_with fail
  clear cc0 cc1 cc2 cc3 cc4 cc5 cc6 cc7 cc8 lc
  (with_reducible refine (rcmay_any c aR cR aD cD true _ HZ.out (H.cal (mt32 (mt8 (mt1 (mt1 mh))))) ⟨fun _ => MM.out, fun _ => rfl⟩).mono ?_)
  rintro e w3 ⟨rfl, hb⟩
  replace H := H.below hb
  clear hb
  have cc0 := H.cell (w.heap.size + 1) 0 (.bool (c.o 0)) mh
  have cc1 := H.cell (w.heap.size + 1) 1 (.bool (c.o 1)) (mt1 mh)
  have cc2 := H.cell (w.heap.size + 1) 2 (.bool (c.o 2)) (mt1 (mt1 mh))
  have cc3 := H.cell (w.heap.size + 1) 3 (.bool (c.o 3)) (mt1 (mt1 (mt1 mh)))
  have cc4 := H.cell (w.heap.size + 1) 4 (.bool (c.o 4)) (mt1 (mt1 (mt1 (mt1 mh))))
  have cc5 := H.cell (w.heap.size + 1) 5 (.bool (c.o 5)) (mt1 (mt1 (mt1 (mt1 (mt1 mh)))))
  have cc6 := H.cell (w.heap.size + 1) 6 (.bool (c.o 6)) (mt1 (mt1 (mt1 (mt1 (mt1 (mt1 mh))))))
  have cc7 := H.cell (w.heap.size + 1) 7 (.slice aR c.nr cR) (mt1 (mt1 (mt1 (mt1 (mt1 (mt1 (mt1 mh)))))))
  have cc8 := H.cell (w.heap.size + 1) 8 (.slice aD c.nd cD) (mt8 mh)
  have lc := H.lt (w.heap.size + 1) 0 (.bool (c.o 0)) mh
  go_wp2_with fail
  clear cc0 cc1 cc2 cc3 cc4 cc5 cc6 cc7 cc8 lc
  (with_reducible refine (Calls.same (rday13_is n true _ HD.out)).mono ?_)
  rintro e w4 ⟨rfl, hb⟩
  replace H := H.below hb
  clear hb
  have cc0 := H.cell (w.heap.size + 1) 0 (.bool (c.o 0)) mh
  have cc1 := H.cell (w.heap.size + 1) 1 (.bool (c.o 1)) (mt1 mh)
  have cc2 := H.cell (w.heap.size + 1) 2 (.bool (c.o 2)) (mt1 (mt1 mh))
  have cc3 := H.cell (w.heap.size + 1) 3 (.bool (c.o 3)) (mt1 (mt1 (mt1 mh)))
  have cc4 := H.cell (w.heap.size + 1) 4 (.bool (c.o 4)) (mt1 (mt1 (mt1 (mt1 mh))))
  have cc5 := H.cell (w.heap.size + 1) 5 (.bool (c.o 5)) (mt1 (mt1 (mt1 (mt1 (mt1 mh)))))
  have cc6 := H.cell (w.heap.size + 1) 6 (.bool (c.o 6)) (mt1 (mt1 (mt1 (mt1 (mt1 (mt1 mh))))))
  have cc7 := H.cell (w.heap.size + 1) 7 (.slice aR c.nr cR) (mt1 (mt1 (mt1 (mt1 (mt1 (mt1 (mt1 mh)))))))
  have cc8 := H.cell (w.heap.size + 1) 8 (.slice aD c.nd cD) (mt8 mh)
  have lc := H.lt (w.heap.size + 1) 0 (.bool (c.o 0)) mh
  go_wp2_with fail
  clear cc0 cc1 cc2 cc3 cc4 cc5 cc6 cc7 cc8 lc
  (with_reducible refine (next_is c aR cR aD cD n a 0 _ (H.factsW (mt32 (mt8 (mt1 (mt1 (mt1 mh)))))) MM.out (H.cal (mt32 (mt8 (mt1 (mt1 mh))))) (by omega) H1.out).mono ?_)
  rintro e w5 ⟨rfl, hb⟩
  replace H := H.below hb
  clear hb
  have cc0 := H.cell (w.heap.size + 1) 0 (.bool (c.o 0)) mh
  have cc1 := H.cell (w.heap.size + 1) 1 (.bool (c.o 1)) (mt1 mh)
  have cc2 := H.cell (w.heap.size + 1) 2 (.bool (c.o 2)) (mt1 (mt1 mh))
  have cc3 := H.cell (w.heap.size + 1) 3 (.bool (c.o 3)) (mt1 (mt1 (mt1 mh)))
  have cc4 := H.cell (w.heap.size + 1) 4 (.bool (c.o 4)) (mt1 (mt1 (mt1 (mt1 mh))))
  have cc5 := H.cell (w.heap.size + 1) 5 (.bool (c.o 5)) (mt1 (mt1 (mt1 (mt1 (mt1 mh)))))
  have cc6 := H.cell (w.heap.size + 1) 6 (.bool (c.o 6)) (mt1 (mt1 (mt1 (mt1 (mt1 (mt1 mh))))))
  have cc7 := H.cell (w.heap.size + 1) 7 (.slice aR c.nr cR) (mt1 (mt1 (mt1 (mt1 (mt1 (mt1 (mt1 mh)))))))
  have cc8 := H.cell (w.heap.size + 1) 8 (.slice aD c.nd cD) (mt8 mh)
  have lc := H.lt (w.heap.size + 1) 0 (.bool (c.o 0)) mh
  go_wp2_with fail
  clear cc0 cc1 cc2 cc3 cc4 cc5 cc6 cc7 cc8 lc
  (with_reducible refine (next_is c aR cR aD cD (n + z) b 0 _ (H.factsW (mt32 (mt8 (mt1 (mt1 (mt1 mh)))))) MM.out (H.cal (mt32 (mt8 (mt1 (mt1 mh))))) (by omega) H2.out).mono ?_)
  rintro e w6 ⟨rfl, hb⟩
  replace H := H.below hb
  clear hb
  have cc0 := H.cell (w.heap.size + 1) 0 (.bool (c.o 0)) mh
  have cc1 := H.cell (w.heap.size + 1) 1 (.bool (c.o 1)) (mt1 mh)
  have cc2 := H.cell (w.heap.size + 1) 2 (.bool (c.o 2)) (mt1 (mt1 mh))
  have cc3 := H.cell (w.heap.size + 1) 3 (.bool (c.o 3)) (mt1 (mt1 (mt1 mh)))
  have cc4 := H.cell (w.heap.size + 1) 4 (.bool (c.o 4)) (mt1 (mt1 (mt1 (mt1 mh))))
  have cc5 := H.cell (w.heap.size + 1) 5 (.bool (c.o 5)) (mt1 (mt1 (mt1 (mt1 (mt1 mh)))))
  have cc6 := H.cell (w.heap.size + 1) 6 (.bool (c.o 6)) (mt1 (mt1 (mt1 (mt1 (mt1 (mt1 mh))))))
  have cc7 := H.cell (w.heap.size + 1) 7 (.slice aR c.nr cR) (mt1 (mt1 (mt1 (mt1 (mt1 (mt1 (mt1 mh)))))))
  have cc8 := H.cell (w.heap.size + 1) 8 (.slice aD c.nd cD) (mt8 mh)
  have lc := H.lt (w.heap.size + 1) 0 (.bool (c.o 0)) mh
  go_wp2_with fail
  clear cc0 cc1 cc2 cc3 cc4 cc5 cc6 cc7 cc8 lc
  (with_reducible refine (prev_is c aR cR aD cD n p g _ (H.factsW (mt32 (mt8 (mt1 (mt1 (mt1 mh)))))) MM.out (H.cal (mt32 (mt8 (mt1 (mt1 mh))))) (by omega) H3.out).mono ?_)
  rintro e w7 ⟨rfl, hb⟩
  replace H := H.below hb
  clear hb
  have cc0 := H.cell (w.heap.size + 1) 0 (.bool (c.o 0)) mh
  have cc1 := H.cell (w.heap.size + 1) 1 (.bool (c.o 1)) (mt1 mh)
  have cc2 := H.cell (w.heap.size + 1) 2 (.bool (c.o 2)) (mt1 (mt1 mh))
  have cc3 := H.cell (w.heap.size + 1) 3 (.bool (c.o 3)) (mt1 (mt1 (mt1 mh)))
  have cc4 := H.cell (w.heap.size + 1) 4 (.bool (c.o 4)) (mt1 (mt1 (mt1 (mt1 mh))))
  have cc5 := H.cell (w.heap.size + 1) 5 (.bool (c.o 5)) (mt1 (mt1 (mt1 (mt1 (mt1 mh)))))
  have cc6 := H.cell (w.heap.size + 1) 6 (.bool (c.o 6)) (mt1 (mt1 (mt1 (mt1 (mt1 (mt1 mh))))))
  have cc7 := H.cell (w.heap.size + 1) 7 (.slice aR c.nr cR) (mt1 (mt1 (mt1 (mt1 (mt1 (mt1 (mt1 mh)))))))
  have cc8 := H.cell (w.heap.size + 1) 8 (.slice aD c.nd cD) (mt8 mh)
  have lc := H.lt (w.heap.size + 1) 0 (.bool (c.o 0)) mh
  go_wp2_with fail
  clear cc0 cc1 cc2 cc3 cc4 cc5 cc6 cc7 cc8 lc
  (with_reducible refine (prev_is c aR cR aD cD (n + z) q h _ (H.factsW (mt32 (mt8 (mt1 (mt1 (mt1 mh)))))) MM.out (H.cal (mt32 (mt8 (mt1 (mt1 mh))))) (by omega) H4.out).mono ?_)
  rintro e w8 ⟨rfl, hb⟩
  replace H := H.below hb
  clear hb
  have cc0 := H.cell (w.heap.size + 1) 0 (.bool (c.o 0)) mh
  have cc1 := H.cell (w.heap.size + 1) 1 (.bool (c.o 1)) (mt1 mh)
  have cc2 := H.cell (w.heap.size + 1) 2 (.bool (c.o 2)) (mt1 (mt1 mh))
  have cc3 := H.cell (w.heap.size + 1) 3 (.bool (c.o 3)) (mt1 (mt1 (mt1 mh)))
  have cc4 := H.cell (w.heap.size + 1) 4 (.bool (c.o 4)) (mt1 (mt1 (mt1 (mt1 mh))))
  have cc5 := H.cell (w.heap.size + 1) 5 (.bool (c.o 5)) (mt1 (mt1 (mt1 (mt1 (mt1 mh)))))
  have cc6 := H.cell (w.heap.size + 1) 6 (.bool (c.o 6)) (mt1 (mt1 (mt1 (mt1 (mt1 (mt1 mh))))))
  have cc7 := H.cell (w.heap.size + 1) 7 (.slice aR c.nr cR) (mt1 (mt1 (mt1 (mt1 (mt1 (mt1 (mt1 mh)))))))
  have cc8 := H.cell (w.heap.size + 1) 8 (.slice aD c.nd cD) (mt8 mh)
  have lc := H.lt (w.heap.size + 1) 0 (.bool (c.o 0)) mh
  repeat' (first | simp only [List.append_eq, List.cons_append, List.nil_append] | go_values | go_skip | go_guarded | go_step | go_upon)
  clear cc0 cc1 cc2 cc3 cc4 cc5 cc6 cc7 cc8 lc
  (with_reducible refine (to_is14 c aR cR aD cD n (k % 5) 0 i _ (H.factsW (mt32 (mt8 (mt1 (mt1 (mt1 mh)))))) MM.out (H.cal (mt32 (mt8 (mt1 (mt1 mh))))) (by omega) H5.out).mono ?_)
  rintro e w9 ⟨rfl, hb⟩
  replace H := H.below hb
  clear hb
  repeat' (first | simp only [List.append_eq, List.cons_append, List.nil_append] | go_values | go_skip | go_guarded | go_step | go_upon)
  go_ret
  exact ⟨rfl, H.old⟩

set_option maxHeartbeats 8000000 in
set_option maxRecDepth 100000 in
theorem rorises_CBt (c : Ca) (aR : Option Addr) (cR : Nat) (aD : Option Addr) (cD : Nat) (n z k a b p q x h : Int) (w : World) (hL : FactsW w) (hCc : CalAt w c aR cR aD cD) (bz : 0 ≤ z ∧ z < 256) (bk : 0 ≤ k ∧ k < 256) (hf : decide (c.nr ≤ 12 ∧ c.nd ≤ 60) = true) (hS : c.Small) (hM : c.May) (hd : decide (1 ≤ n ∧ n ≤ 3652059) = true) (nb : 1 ≤ n ∧ n ≤ 3652059) (hr : n + z ≤ 3652059) (h1 : StepIs c 1 n a 0) (h2 : StepIs c 1 (n + z) b 0) (h3 : StepIs c (-1) n p 0) (h4 : StepIs c (-1) (n + z) q h) (h5 : ToIs c n (k % 5) x 0) (kh : (h == 0) = false) (h6 : ToIs c x (k % 5) x 0) (bx : -9223372036854775808 ≤ x ∧ x < 9223372036854775808) (hab : decide (a > b) = false) :
    Calls Tryd.prog 6 #[.agg #[.bool (c.o 0), .bool (c.o 1), .bool (c.o 2), .bool (c.o 3), .bool (c.o 4), .bool (c.o 5), .bool (c.o 6), .slice aR c.nr cR, .slice aD c.nd cD, .int .i64 n, .int .u8 z, .int .u8 k]] w fun e w' => e = .returned (.bool true) ∧ Below w.heap.size w w' := by
  have H := ((Held.start w).add (f := factsWF) hL).add (f := calF c aR cR aD cD) hCc
  clear hL hCc
  have t0 : decide (n + z > 3652059) = false := decide_eq_false (by omega)
  have zh : (h != 0) = true := by simpa using kh
  have HF := Lib.hid hf
  have HZ := Lib.hid hS
  have MM := Lib.hid hM
  have HD := Lib.hid hd
  have H1 := Lib.hid h1
  have H2 := Lib.hid h2
  have H3 := Lib.hid h3
  have H4 := Lib.hid h4
  have H5 := Lib.hid h5
  have H6 := Lib.hid h6
  clear hf hS hM hd h1 h2 h3 h4 h5 h6
  go_enter Tryd.func6, Tryd.ntmps6
  go_wp2_with fail
  replace H := ((H.box_12 (w.heap.size) (.bool (c.o 0)) (.bool (c.o 1)) (.bool (c.o 2)) (.bool (c.o 3)) (.bool (c.o 4)) (.bool (c.o 5)) (.bool (c.o 6)) (.slice aR c.nr cR) (.slice aD c.nd cD) (.int .i64 n) (.int .u8 z) (.int .u8 k) 50 rfl).box_9 (w.heap.size + 1) (.bool (c.o 0)) (.bool (c.o 1)) (.bool (c.o 2)) (.bool (c.o 3)) (.bool (c.o 4)) (.bool (c.o 5)) (.bool (c.o 6)) (.slice aR c.nr cR) (.slice aD c.nd cD) 26 (by simp))
  (with_reducible refine (roshown_any _ (H.factsW (mt32 (mt8 (mt1 (mt1 (mt1 mh))))))).mono ?_)
  rintro e w1 ⟨rfl, hb⟩
  replace H := H.below hb
  clear hb
  have cc0 := H.cell (w.heap.size + 1) 0 (.bool (c.o 0)) mh
  have cc1 := H.cell (w.heap.size + 1) 1 (.bool (c.o 1)) (mt1 mh)
  have cc2 := H.cell (w.heap.size + 1) 2 (.bool (c.o 2)) (mt1 (mt1 mh))
  have cc3 := H.cell (w.heap.size + 1) 3 (.bool (c.o 3)) (mt1 (mt1 (mt1 mh)))
  have cc4 := H.cell (w.heap.size + 1) 4 (.bool (c.o 4)) (mt1 (mt1 (mt1 (mt1 mh))))
  have cc5 := H.cell (w.heap.size + 1) 5 (.bool (c.o 5)) (mt1 (mt1 (mt1 (mt1 (mt1 mh)))))
  have cc6 := H.cell (w.heap.size + 1) 6 (.bool (c.o 6)) (mt1 (mt1 (mt1 (mt1 (mt1 (mt1 mh))))))
  have cc7 := H.cell (w.heap.size + 1) 7 (.slice aR c.nr cR) (mt1 (mt1 (mt1 (mt1 (mt1 (mt1 (mt1 mh)))))))
  have cc8 := H.cell (w.heap.size + 1) 8 (.slice aD c.nd cD) (mt8 mh)
  have lc := H.lt (w.heap.size + 1) 0 (.bool (c.o 0)) mh
  go_wp2_with fail
  clear cc0 cc1 cc2 cc3 cc4 cc5 cc6 cc7 cc8 lc
  (with_reducible refine (few_any c aR cR aD cD true _ HF.out).mono ?_)
  rintro e w2 ⟨rfl, hb⟩
  replace H := H.below hb
  clear hb
  have cc0 := H.cell (w.heap.size + 1) 0 (.bool (c.o 0)) mh
  have cc1 := H.cell (w.heap.size + 1) 1 (.bool (c.o 1)) (mt1 mh)
  have cc2 := H.cell (w.heap.size + 1) 2 (.bool (c.o 2)) (mt1 (mt1 mh))
  have cc3 := H.cell (w.heap.size + 1) 3 (.bool (c.o 3)) (mt1 (mt1 (mt1 mh)))
  have cc4 := H.cell (w.heap.size + 1) 4 (.bool (c.o 4)) (mt1 (mt1 (mt1 (mt1 mh))))
  have cc5 := H.cell (w.heap.size + 1) 5 (.bool (c.o 5)) (mt1 (mt1 (mt1 (mt1 (mt1 mh)))))
  have cc6 := H.cell (w.heap.size + 1) 6 (.bool (c.o 6)) (mt1 (mt1 (mt1 (mt1 (mt1 (mt1 mh))))))
  have cc7 := H.cell (w.heap.size + 1) 7 (.slice aR c.nr cR) (mt1 (mt1 (mt1 (mt1 (mt1 (mt1 (mt1 mh)))))))
  have cc8 := H.cell (w.heap.size + 1) 8 (.slice aD c.nd cD) (mt8 mh)
  have lc := H.lt (w.heap.size + 1) 0 (.bool (c.o 0)) mh
  go_wp2_with fail
  clear cc0 cc1 cc2 cc3 cc4 cc5 cc6 cc7 cc8 lc
  (with_reducible refine (rcmay_any c aR cR aD cD true _ HZ.out (H.cal (mt32 (mt8 (mt1 (mt1 mh))))) ⟨fun _ => MM.out, fun _ => rfl⟩).mono ?_)
  rintro e w3 ⟨rfl, hb⟩
  replace H := H.below hb
  clear hb
  have cc0 := H.cell (w.heap.size + 1) 0 (.bool (c.o 0)) mh
  have cc1 := H.cell (w.heap.size + 1) 1 (.bool (c.o 1)) (mt1 mh)
  have cc2 := H.cell (w.heap.size + 1) 2 (.bool (c.o 2)) (mt1 (mt1 mh))
  have cc3 := H.cell (w.heap.size + 1) 3 (.bool (c.o 3)) (mt1 (mt1 (mt1 mh)))
  have cc4 := H.cell (w.heap.size + 1) 4 (.bool (c.o 4)) (mt1 (mt1 (mt1 (mt1 mh))))
  have cc5 := H.cell (w.heap.size + 1) 5 (.bool (c.o 5)) (mt1 (mt1 (mt1 (mt1 (mt1 mh)))))
  have cc6 := H.cell (w.heap.size + 1) 6 (.bool (c.o 6)) (mt1 (mt1 (mt1 (mt1 (mt1 (mt1 mh))))))
  have cc7 := H.cell (w.heap.size + 1) 7 (.slice aR c.nr cR) (mt1 (mt1 (mt1 (mt1 (mt1 (mt1 (mt1 mh)))))))
  have cc8 := H.cell (w.heap.size + 1) 8 (.slice aD c.nd cD) (mt8 mh)
  have lc := H.lt (w.heap.size + 1) 0 (.bool (c.o 0)) mh
  go_wp2_with fail
  clear cc0 cc1 cc2 cc3 cc4 cc5 cc6 cc7 cc8 lc
  (with_reducible refine (Calls.same (rday13_is n true _ HD.out)).mono ?_)
  rintro e w4 ⟨rfl, hb⟩
  replace H := H.below hb
  clear hb
  have cc0 := H.cell (w.heap.size + 1) 0 (.bool (c.o 0)) mh
  have cc1 := H.cell (w.heap.size + 1) 1 (.bool (c.o 1)) (mt1 mh)
  have cc2 := H.cell (w.heap.size + 1) 2 (.bool (c.o 2)) (mt1 (mt1 mh))
  have cc3 := H.cell (w.heap.size + 1) 3 (.bool (c.o 3)) (mt1 (mt1 (mt1 mh)))
  have cc4 := H.cell (w.heap.size + 1) 4 (.bool (c.o 4)) (mt1 (mt1 (mt1 (mt1 mh))))
  have cc5 := H.cell (w.heap.size + 1) 5 (.bool (c.o 5)) (mt1 (mt1 (mt1 (mt1 (mt1 mh)))))
  have cc6 := H.cell (w.heap.size + 1) 6 (.bool (c.o 6)) (mt1 (mt1 (mt1 (mt1 (mt1 (mt1 mh))))))
  have cc7 := H.cell (w.heap.size + 1) 7 (.slice aR c.nr cR) (mt1 (mt1 (mt1 (mt1 (mt1 (mt1 (mt1 mh)))))))
  have cc8 := H.cell (w.heap.size + 1) 8 (.slice aD c.nd cD) (mt8 mh)
  have lc := H.lt (w.heap.size + 1) 0 (.bool (c.o 0)) mh
  go_wp2_with fail
  clear cc0 cc1 cc2 cc3 cc4 cc5 cc6 cc7 cc8 lc
  (with_reducible refine (next_is c aR cR aD cD n a 0 _ (H.factsW (mt32 (mt8 (mt1 (mt1 (mt1 mh)))))) MM.out (H.cal (mt32 (mt8 (mt1 (mt1 mh))))) (by omega) H1.out).mono ?_)
  rintro e w5 ⟨rfl, hb⟩
  replace H := H.below hb
  clear hb
  have cc0 := H.cell (w.heap.size + 1) 0 (.bool (c.o 0)) mh
  have cc1 := H.cell (w.heap.size + 1) 1 (.bool (c.o 1)) (mt1 mh)
  have cc2 := H.cell (w.heap.size + 1) 2 (.bool (c.o 2)) (mt1 (mt1 mh))
  have cc3 := H.cell (w.heap.size + 1) 3 (.bool (c.o 3)) (mt1 (mt1 (mt1 mh)))
  have cc4 := H.cell (w.heap.size + 1) 4 (.bool (c.o 4)) (mt1 (mt1 (mt1 (mt1 mh))))
  have cc5 := H.cell (w.heap.size + 1) 5 (.bool (c.o 5)) (mt1 (mt1 (mt1 (mt1 (mt1 mh)))))
  have cc6 := H.cell (w.heap.size + 1) 6 (.bool (c.o 6)) (mt1 (mt1 (mt1 (mt1 (mt1 (mt1 mh))))))
  have cc7 := H.cell (w.heap.size + 1) 7 (.slice aR c.nr cR) (mt1 (mt1 (mt1 (mt1 (mt1 (mt1 (mt1 mh)))))))
  have cc8 := H.cell (w.heap.size + 1) 8 (.slice aD c.nd cD) (mt8 mh)
  have lc := H.lt (w.heap.size + 1) 0 (.bool (c.o 0)) mh
  go_wp2_with fail
  clear cc0 cc1 cc2 cc3 cc4 cc5 cc6 cc7 cc8 lc
  (with_reducible refine (next_is c aR cR aD cD (n + z) b 0 _ (H.factsW (mt32 (mt8 (mt1 (mt1 (mt1 mh)))))) MM.out (H.cal (mt32 (mt8 (mt1 (mt1 mh))))) (by omega) H2.out).mono ?_)
  rintro e w6 ⟨rfl, hb⟩
  replace H := H.below hb
  clear hb
  have cc0 := H.cell (w.heap.size + 1) 0 (.bool (c.o 0)) mh
  have cc1 := H.cell (w.heap.size + 1) 1 (.bool (c.o 1)) (mt1 mh)
  have cc2 := H.cell (w.heap.size + 1) 2 (.bool (c.o 2)) (mt1 (mt1 mh))
  have cc3 := H.cell (w.heap.size + 1) 3 (.bool (c.o 3)) (mt1 (mt1 (mt1 mh)))
  have cc4 := H.cell (w.heap.size + 1) 4 (.bool (c.o 4)) (mt1 (mt1 (mt1 (mt1 mh))))
  have cc5 := H.cell (w.heap.size + 1) 5 (.bool (c.o 5)) (mt1 (mt1 (mt1 (mt1 (mt1 mh)))))
  have cc6 := H.cell (w.heap.size + 1) 6 (.bool (c.o 6)) (mt1 (mt1 (mt1 (mt1 (mt1 (mt1 mh))))))
  have cc7 := H.cell (w.heap.size + 1) 7 (.slice aR c.nr cR) (mt1 (mt1 (mt1 (mt1 (mt1 (mt1 (mt1 mh)))))))
  have cc8 := H.cell (w.heap.size + 1) 8 (.slice aD c.nd cD) (mt8 mh)
  have lc := H.lt (w.heap.size + 1) 0 (.bool (c.o 0)) mh
  go_wp2_with fail
  clear cc0 cc1 cc2 cc3 cc4 cc5 cc6 cc7 cc8 lc
  (with_reducible refine (prev_is c aR cR aD cD n p 0 _ (H.factsW (mt32 (mt8 (mt1 (mt1 (mt1 mh)))))) MM.out (H.cal (mt32 (mt8 (mt1 (mt1 mh))))) (by omega) H3.out).mono ?_)
  rintro e w7 ⟨rfl, hb⟩
  replace H := H.below hb
  clear hb
  have cc0 := H.cell (w.heap.size + 1) 0 (.bool (c.o 0)) mh
  have cc1 := H.cell (w.heap.size + 1) 1 (.bool (c.o 1)) (mt1 mh)
  have cc2 := H.cell (w.heap.size + 1) 2 (.bool (c.o 2)) (mt1 (mt1 mh))
  have cc3 := H.cell (w.heap.size + 1) 3 (.bool (c.o 3)) (mt1 (mt1 (mt1 mh)))
  have cc4 := H.cell (w.heap.size + 1) 4 (.bool (c.o 4)) (mt1 (mt1 (mt1 (mt1 mh))))
  have cc5 := H.cell (w.heap.size + 1) 5 (.bool (c.o 5)) (mt1 (mt1 (mt1 (mt1 (mt1 mh)))))
  have cc6 := H.cell (w.heap.size + 1) 6 (.bool (c.o 6)) (mt1 (mt1 (mt1 (mt1 (mt1 (mt1 mh))))))
  have cc7 := H.cell (w.heap.size + 1) 7 (.slice aR c.nr cR) (mt1 (mt1 (mt1 (mt1 (mt1 (mt1 (mt1 mh)))))))
  have cc8 := H.cell (w.heap.size + 1) 8 (.slice aD c.nd cD) (mt8 mh)
  have lc := H.lt (w.heap.size + 1) 0 (.bool (c.o 0)) mh
  go_wp2_with fail
  clear cc0 cc1 cc2 cc3 cc4 cc5 cc6 cc7 cc8 lc
  (with_reducible refine (prev_is c aR cR aD cD (n + z) q h _ (H.factsW (mt32 (mt8 (mt1 (mt1 (mt1 mh)))))) MM.out (H.cal (mt32 (mt8 (mt1 (mt1 mh))))) (by omega) H4.out).mono ?_)
  rintro e w8 ⟨rfl, hb⟩
  replace H := H.below hb
  clear hb
  have cc0 := H.cell (w.heap.size + 1) 0 (.bool (c.o 0)) mh
  have cc1 := H.cell (w.heap.size + 1) 1 (.bool (c.o 1)) (mt1 mh)
  have cc2 := H.cell (w.heap.size + 1) 2 (.bool (c.o 2)) (mt1 (mt1 mh))
  have cc3 := H.cell (w.heap.size + 1) 3 (.bool (c.o 3)) (mt1 (mt1 (mt1 mh)))
  have cc4 := H.cell (w.heap.size + 1) 4 (.bool (c.o 4)) (mt1 (mt1 (mt1 (mt1 mh))))
  have cc5 := H.cell (w.heap.size + 1) 5 (.bool (c.o 5)) (mt1 (mt1 (mt1 (mt1 (mt1 mh)))))
  have cc6 := H.cell (w.heap.size + 1) 6 (.bool (c.o 6)) (mt1 (mt1 (mt1 (mt1 (mt1 (mt1 mh))))))
  have cc7 := H.cell (w.heap.size + 1) 7 (.slice aR c.nr cR) (mt1 (mt1 (mt1 (mt1 (mt1 (mt1 (mt1 mh)))))))
  have cc8 := H.cell (w.heap.size + 1) 8 (.slice aD c.nd cD) (mt8 mh)
  have lc := H.lt (w.heap.size + 1) 0 (.bool (c.o 0)) mh
  repeat' (first | simp only [List.append_eq, List.cons_append, List.nil_append] | go_values | go_skip | go_guarded | go_step | go_upon)
  clear cc0 cc1 cc2 cc3 cc4 cc5 cc6 cc7 cc8 lc
  (with_reducible refine (to_is14 c aR cR aD cD n (k % 5) x 0 _ (H.factsW (mt32 (mt8 (mt1 (mt1 (mt1 mh)))))) MM.out (H.cal (mt32 (mt8 (mt1 (mt1 mh))))) (by omega) H5.out).mono ?_)
  rintro e w9 ⟨rfl, hb⟩
  replace H := H.below hb
  clear hb
  have cc0 := H.cell (w.heap.size + 1) 0 (.bool (c.o 0)) mh
  have cc1 := H.cell (w.heap.size + 1) 1 (.bool (c.o 1)) (mt1 mh)
  have cc2 := H.cell (w.heap.size + 1) 2 (.bool (c.o 2)) (mt1 (mt1 mh))
  have cc3 := H.cell (w.heap.size + 1) 3 (.bool (c.o 3)) (mt1 (mt1 (mt1 mh)))
  have cc4 := H.cell (w.heap.size + 1) 4 (.bool (c.o 4)) (mt1 (mt1 (mt1 (mt1 mh))))
  have cc5 := H.cell (w.heap.size + 1) 5 (.bool (c.o 5)) (mt1 (mt1 (mt1 (mt1 (mt1 mh)))))
  have cc6 := H.cell (w.heap.size + 1) 6 (.bool (c.o 6)) (mt1 (mt1 (mt1 (mt1 (mt1 (mt1 mh))))))
  have cc7 := H.cell (w.heap.size + 1) 7 (.slice aR c.nr cR) (mt1 (mt1 (mt1 (mt1 (mt1 (mt1 (mt1 mh)))))))
  have cc8 := H.cell (w.heap.size + 1) 8 (.slice aD c.nd cD) (mt8 mh)
  have lc := H.lt (w.heap.size + 1) 0 (.bool (c.o 0)) mh
  repeat' (first | simp only [List.append_eq, List.cons_append, List.nil_append] | go_values | go_skip | go_guarded | go_step | go_upon)
  clear cc0 cc1 cc2 cc3 cc4 cc5 cc6 cc7 cc8 lc
  (with_reducible refine (to_is14 c aR cR aD cD x (k % 5) x 0 _ (H.factsW (mt32 (mt8 (mt1 (mt1 (mt1 mh)))))) MM.out (H.cal (mt32 (mt8 (mt1 (mt1 mh))))) bx H6.out).mono ?_)
  rintro e w10 ⟨rfl, hb⟩
  replace H := H.below hb
  clear hb
  repeat' (first | simp only [List.append_eq, List.cons_append, List.nil_append] | go_values | go_skip | go_guarded | go_step | go_upon)
  go_ret
  exact ⟨rfl, H.old⟩

set_option maxHeartbeats 8000000 in
set_option maxRecDepth 100000 in
theorem rorises_CBf (c : Ca) (aR : Option Addr) (cR : Nat) (aD : Option Addr) (cD : Nat) (n z k a b p q i h : Int) (w : World) (hL : FactsW w) (hCc : CalAt w c aR cR aD cD) (bz : 0 ≤ z ∧ z < 256) (bk : 0 ≤ k ∧ k < 256) (hf : decide (c.nr ≤ 12 ∧ c.nd ≤ 60) = true) (hS : c.Small) (hM : c.May) (hd : decide (1 ≤ n ∧ n ≤ 3652059) = true) (nb : 1 ≤ n ∧ n ≤ 3652059) (hr : n + z ≤ 3652059) (h1 : StepIs c 1 n a 0) (h2 : StepIs c 1 (n + z) b 0) (h3 : StepIs c (-1) n p 0) (h4 : StepIs c (-1) (n + z) q h) (h5 : ToIs c n (k % 5) 0 i) (kh : (h == 0) = false) (ki : (i == 0) = false) (hab : decide (a > b) = false) :
    Calls Tryd.prog 6 #[.agg #[.bool (c.o 0), .bool (c.o 1), .bool (c.o 2), .bool (c.o 3), .bool (c.o 4), .bool (c.o 5), .bool (c.o 6), .slice aR c.nr cR, .slice aD c.nd cD, .int .i64 n, .int .u8 z, .int .u8 k]] w fun e w' => e = .returned (.bool true) ∧ Below w.heap.size w w' := by
  have H := ((Held.start w).add (f := factsWF) hL).add (f := calF c aR cR aD cD) hCc
  clear hL hCc
  have t0 : decide (n + z > 3652059) = false := decide_eq_false (by omega)
  have zh : (h != 0) = true := by simpa using kh
  have zi : (i != 0) = true := by simpa using ki
  have HF := Lib.hid hf
  have HZ := Lib.hid hS
  have MM := Lib.hid hM
  have HD := Lib.hid hd
  have H1 := Lib.hid h1
  have H2 := Lib.hid h2
  have H3 := Lib.hid h3
  have H4 := Lib.hid h4
  have H5 := Lib.hid h5
  clear hf hS hM hd h1 h2 h3 h4 h5
  go_enter Tryd.func6, Tryd.ntmps6
  go_wp2_with fail
  replace H := ((H.box_12 (w.heap.size) (.bool (c.o 0)) (.bool (c.o 1)) (.bool (c.o 2)) (.bool (c.o 3)) (.bool (c.o 4)) (.bool (c.o 5)) (.bool (c.o 6)) (.slice aR c.nr cR) (.slice aD c.nd cD) (.int .i64 n) (.int .u8 z) (.int .u8 k) 50 rfl).box_9 (w.heap.size + 1) (.bool (c.o 0)) (.bool (c.o 1)) (.bool (c.o 2)) (.bool (c.o 3)) (.bool (c.o 4)) (.bool (c.o 5)) (.bool (c.o 6)) (.slice aR c.nr cR) (.slice aD c.nd cD) 26 (by simp))
  (with_reducible refine (roshown_any _ (H.factsW (mt32 (mt8 (mt1 (mt1 (mt1 mh))))))).mono ?_)
  rintro e w1 ⟨rfl, hb⟩
  replace H := H.below hb
  clear hb
  have cc0 := H.cell (w.heap.size + 1) 0 (.bool (c.o 0)) mh
  have cc1 := H.cell (w.heap.size + 1) 1 (.bool (c.o 1)) (mt1 mh)
  have cc2 := H.cell (w.heap.size + 1) 2 (.bool (c.o 2)) (mt1 (mt1 mh))
  have cc3 := H.cell (w.heap.size + 1) 3 (.bool (c.o 3)) (mt1 (mt1 (mt1 mh)))
  have cc4 := H.cell (w.heap.size + 1) 4 (.bool (c.o 4)) (mt1 (mt1 (mt1 (mt1 mh))))
  have cc5 := H.cell (w.heap.size + 1) 5 (.bool (c.o 5)) (mt1 (mt1 (mt1 (mt1 (mt1 mh)))))
  have cc6 := H.cell (w.heap.size + 1) 6 (.bool (c.o 6)) (mt1 (mt1 (mt1 (mt1 (mt1 (mt1 mh))))))
  have cc7 := H.cell (w.heap.size + 1) 7 (.slice aR c.nr cR) (mt1 (mt1 (mt1 (mt1 (mt1 (mt1 (mt1 mh)))))))
  have cc8 := H.cell (w.heap.size + 1) 8 (.slice aD c.nd cD) (mt8 mh)
  have lc := H.lt (w.heap.size + 1) 0 (.bool (c.o 0)) mh
  go_wp2_with fail
  clear cc0 cc1 cc2 cc3 cc4 cc5 cc6 cc7 cc8 lc
  (with_reducible refine (few_any c aR cR aD cD true _ HF.out).mono ?_)
  rintro e w2 ⟨rfl, hb⟩
  replace H := H.below hb
  clear hb
  have cc0 := H.cell (w.heap.size + 1) 0 (.bool (c.o 0)) mh
  have cc1 := H.cell (w.heap.size + 1) 1 (.bool (c.o 1)) (mt1 mh)
  have cc2 := H.cell (w.heap.size + 1) 2 (.bool (c.o 2)) (mt1 (mt1 mh))
  have cc3 := H.cell (w.heap.size + 1) 3 (.bool (c.o 3)) (mt1 (mt1 (mt1 mh)))
  have cc4 := H.cell (w.heap.size + 1) 4 (.bool (c.o 4)) (mt1 (mt1 (mt1 (mt1 mh))))
  have cc5 := H.cell (w.heap.size + 1) 5 (.bool (c.o 5)) (mt1 (mt1 (mt1 (mt1 (mt1 mh)))))
  have cc6 := H.cell (w.heap.size + 1) 6 (.bool (c.o 6)) (mt1 (mt1 (mt1 (mt1 (mt1 (mt1 mh))))))
  have cc7 := H.cell (w.heap.size + 1) 7 (.slice aR c.nr cR) (mt1 (mt1 (mt1 (mt1 (mt1 (mt1 (mt1 mh)))))))
  have cc8 := H.cell (w.heap.size + 1) 8 (.slice aD c.nd cD) (mt8 mh)
  have lc := H.lt (w.heap.size + 1) 0 (.bool (c.o 0)) mh
  go_wp2_with fail
  clear cc0 cc1 cc2 cc3 cc4 cc5 cc6 cc7 cc8 lc
  (with_reducible refine (rcmay_any c aR cR aD cD true _ HZ.out (H.cal (mt32 (mt8 (mt1 (mt1 mh))))) ⟨fun _ => MM.out, fun _ => rfl⟩).mono ?_)
  rintro e w3 ⟨rfl, hb⟩
  replace H := H.below hb
  clear hb
  have cc0 := H.cell (w.heap.size + 1) 0 (.bool (c.o 0)) mh
  have cc1 := H.cell (w.heap.size + 1) 1 (.bool (c.o 1)) (mt1 mh)
  have cc2 := H.cell (w.heap.size + 1) 2 (.bool (c.o 2)) (mt1 (mt1 mh))
  have cc3 := H.cell (w.heap.size + 1) 3 (.bool (c.o 3)) (mt1 (mt1 (mt1 mh)))
  have cc4 := H.cell (w.heap.size + 1) 4 (.bool (c.o 4)) (mt1 (mt1 (mt1 (mt1 mh))))
  have cc5 := H.cell (w.heap.size + 1) 5 (.bool (c.o 5)) (mt1 (mt1 (mt1 (mt1 (mt1 mh)))))
  have cc6 := H.cell (w.heap.size + 1) 6 (.bool (c.o 6)) (mt1 (mt1 (mt1 (mt1 (mt1 (mt1 mh))))))
  have cc7 := H.cell (w.heap.size + 1) 7 (.slice aR c.nr cR) (mt1 (mt1 (mt1 (mt1 (mt1 (mt1 (mt1 mh)))))))
  have cc8 := H.cell (w.heap.size + 1) 8 (.slice aD c.nd cD) (mt8 mh)
  have lc := H.lt (w.heap.size + 1) 0 (.bool (c.o 0)) mh
  go_wp2_with fail
  clear cc0 cc1 cc2 cc3 cc4 cc5 cc6 cc7 cc8 lc
  (with_reducible refine (Calls.same (rday13_is n true _ HD.out)).mono ?_)
  rintro e w4 ⟨rfl, hb⟩
  replace H := H.below hb
  clear hb
  have cc0 := H.cell (w.heap.size + 1) 0 (.bool (c.o 0)) mh
  have cc1 := H.cell (w.heap.size + 1) 1 (.bool (c.o 1)) (mt1 mh)
  have cc2 := H.cell (w.heap.size + 1) 2 (.bool (c.o 2)) (mt1 (mt1 mh))
  have cc3 := H.cell (w.heap.size + 1) 3 (.bool (c.o 3)) (mt1 (mt1 (mt1 mh)))
  have cc4 := H.cell (w.heap.size + 1) 4 (.bool (c.o 4)) (mt1 (mt1 (mt1 (mt1 mh))))
  have cc5 := H.cell (w.heap.size + 1) 5 (.bool (c.o 5)) (mt1 (mt1 (mt1 (mt1 (mt1 mh)))))
  have cc6 := H.cell (w.heap.size + 1) 6 (.bool (c.o 6)) (mt1 (mt1 (mt1 (mt1 (mt1 (mt1 mh))))))
  have cc7 := H.cell (w.heap.size + 1) 7 (.slice aR c.nr cR) (mt1 (mt1 (mt1 (mt1 (mt1 (mt1 (mt1 mh)))))))
  have cc8 := H.cell (w.heap.size + 1) 8 (.slice aD c.nd cD) (mt8 mh)
  have lc := H.lt (w.heap.size + 1) 0 (.bool (c.o 0)) mh
  go_wp2_with fail
  clear cc0 cc1 cc2 cc3 cc4 cc5 cc6 cc7 cc8 lc
  (with_reducible refine (next_is c aR cR aD cD n a 0 _ (H.factsW (mt32 (mt8 (mt1 (mt1 (mt1 mh)))))) MM.out (H.cal (mt32 (mt8 (mt1 (mt1 mh))))) (by omega) H1.out).mono ?_)
  rintro e w5 ⟨rfl, hb⟩
  replace H := H.below hb
  clear hb
  have cc0 := H.cell (w.heap.size + 1) 0 (.bool (c.o 0)) mh
  have cc1 := H.cell (w.heap.size + 1) 1 (.bool (c.o 1)) (mt1 mh)
  have cc2 := H.cell (w.heap.size + 1) 2 (.bool (c.o 2)) (mt1 (mt1 mh))
  have cc3 := H.cell (w.heap.size + 1) 3 (.bool (c.o 3)) (mt1 (mt1 (mt1 mh)))
  have cc4 := H.cell (w.heap.size + 1) 4 (.bool (c.o 4)) (mt1 (mt1 (mt1 (mt1 mh))))
  have cc5 := H.cell (w.heap.size + 1) 5 (.bool (c.o 5)) (mt1 (mt1 (mt1 (mt1 (mt1 mh)))))
  have cc6 := H.cell (w.heap.size + 1) 6 (.bool (c.o 6)) (mt1 (mt1 (mt1 (mt1 (mt1 (mt1 mh))))))
  have cc7 := H.cell (w.heap.size + 1) 7 (.slice aR c.nr cR) (mt1 (mt1 (mt1 (mt1 (mt1 (mt1 (mt1 mh)))))))
  have cc8 := H.cell (w.heap.size + 1) 8 (.slice aD c.nd cD) (mt8 mh)
  have lc := H.lt (w.heap.size + 1) 0 (.bool (c.o 0)) mh
  go_wp2_with fail
  clear cc0 cc1 cc2 cc3 cc4 cc5 cc6 cc7 cc8 lc
  (with_reducible refine (next_is c aR cR aD cD (n + z) b 0 _ (H.factsW (mt32 (mt8 (mt1 (mt1 (mt1 mh)))))) MM.out (H.cal (mt32 (mt8 (mt1 (mt1 mh))))) (by omega) H2.out).mono ?_)
  rintro e w6 ⟨rfl, hb⟩
  replace H := H.below hb
  clear hb
  have cc0 := H.cell (w.heap.size + 1) 0 (.bool (c.o 0)) mh
  have cc1 := H.cell (w.heap.size + 1) 1 (.bool (c.o 1)) (mt1 mh)
  have cc2 := H.cell (w.heap.size + 1) 2 (.bool (c.o 2)) (mt1 (mt1 mh))
  have cc3 := H.cell (w.heap.size + 1) 3 (.bool (c.o 3)) (mt1 (mt1 (mt1 mh)))
  have cc4 := H.cell (w.heap.size + 1) 4 (.bool (c.o 4)) (mt1 (mt1 (mt1 (mt1 mh))))
  have cc5 := H.cell (w.heap.size + 1) 5 (.bool (c.o 5)) (mt1 (mt1 (mt1 (mt1 (mt1 mh)))))
  have cc6 := H.cell (w.heap.size + 1) 6 (.bool (c.o 6)) (mt1 (mt1 (mt1 (mt1 (mt1 (mt1 mh))))))
  have cc7 := H.cell (w.heap.size + 1) 7 (.slice aR c.nr cR) (mt1 (mt1 (mt1 (mt1 (mt1 (mt1 (mt1 mh)))))))
  have cc8 := H.cell (w.heap.size + 1) 8 (.slice aD c.nd cD) (mt8 mh)
  have lc := H.lt (w.heap.size + 1) 0 (.bool (c.o 0)) mh
  go_wp2_with fail
  clear cc0 cc1 cc2 cc3 cc4 cc5 cc6 cc7 cc8 lc
  (with_reducible refine (prev_is c aR cR aD cD n p 0 _ (H.factsW (mt32 (mt8 (mt1 (mt1 (mt1 mh)))))) MM.out (H.cal (mt32 (mt8 (mt1 (mt1 mh))))) (by omega) H3.out).mono ?_)
  rintro e w7 ⟨rfl, hb⟩
  replace H := H.below hb
  clear hb
  have cc0 := H.cell (w.heap.size + 1) 0 (.bool (c.o 0)) mh
  have cc1 := H.cell (w.heap.size + 1) 1 (.bool (c.o 1)) (mt1 mh)
  have cc2 := H.cell (w.heap.size + 1) 2 (.bool (c.o 2)) (mt1 (mt1 mh))
  have cc3 := H.cell (w.heap.size + 1) 3 (.bool (c.o 3)) (mt1 (mt1 (mt1 mh)))
  have cc4 := H.cell (w.heap.size + 1) 4 (.bool (c.o 4)) (mt1 (mt1 (mt1 (mt1 mh))))
  have cc5 := H.cell (w.heap.size + 1) 5 (.bool (c.o 5)) (mt1 (mt1 (mt1 (mt1 (mt1 mh)))))
  have cc6 := H.cell (w.heap.size + 1) 6 (.bool (c.o 6)) (mt1 (mt1 (mt1 (mt1 (mt1 (mt1 mh))))))
  have cc7 := H.cell (w.heap.size + 1) 7 (.slice aR c.nr cR) (mt1 (mt1 (mt1 (mt1 (mt1 (mt1 (mt1 mh)))))))
  have cc8 := H.cell (w.heap.size + 1) 8 (.slice aD c.nd cD) (mt8 mh)
  have lc := H.lt (w.heap.size + 1) 0 (.bool (c.o 0)) mh
  go_wp2_with fail
  clear cc0 cc1 cc2 cc3 cc4 cc5 cc6 cc7 cc8 lc
  (with_reducible refine (prev_is c aR cR aD cD (n + z) q h _ (H.factsW (mt32 (mt8 (mt1 (mt1 (mt1 mh)))))) MM.out (H.cal (mt32 (mt8 (mt1 (mt1 mh))))) (by omega) H4.out).mono ?_)
  rintro e w8 ⟨rfl, hb⟩
  replace H := H.below hb
  clear hb
  have cc0 := H.cell (w.heap.size + 1) 0 (.bool (c.o 0)) mh
  have cc1 := H.cell (w.heap.size + 1) 1 (.bool (c.o 1)) (mt1 mh)
  have cc2 := H.cell (w.heap.size + 1) 2 (.bool (c.o 2)) (mt1 (mt1 mh))
  have cc3 := H.cell (w.heap.size + 1) 3 (.bool (c.o 3)) (mt1 (mt1 (mt1 mh)))
  have cc4 := H.cell (w.heap.size + 1) 4 (.bool (c.o 4)) (mt1 (mt1 (mt1 (mt1 mh))))
  have cc5 := H.cell (w.heap.size + 1) 5 (.bool (c.o 5)) (mt1 (mt1 (mt1 (mt1 (mt1 mh)))))
  have cc6 := H.cell (w.heap.size + 1) 6 (.bool (c.o 6)) (mt1 (mt1 (mt1 (mt1 (mt1 (mt1 mh))))))
  have cc7 := H.cell (w.heap.size + 1) 7 (.slice aR c.nr cR) (mt1 (mt1 (mt1 (mt1 (mt1 (mt1 (mt1 mh)))))))
  have cc8 := H.cell (w.heap.size + 1) 8 (.slice aD c.nd cD) (mt8 mh)
  have lc := H.lt (w.heap.size + 1) 0 (.bool (c.o 0)) mh
  repeat' (first | simp only [List.append_eq, List.cons_append, List.nil_append] | go_values | go_skip | go_guarded | go_step | go_upon)
  clear cc0 cc1 cc2 cc3 cc4 cc5 cc6 cc7 cc8 lc
  (with_reducible refine (to_is14 c aR cR aD cD n (k % 5) 0 i _ (H.factsW (mt32 (mt8 (mt1 (mt1 (mt1 mh)))))) MM.out (H.cal (mt32 (mt8 (mt1 (mt1 mh))))) (by omega) H5.out).mono ?_)
  rintro e w9 ⟨rfl, hb⟩
  replace H := H.below hb
  clear hb
  repeat' (first | simp only [List.append_eq, List.cons_append, List.nil_append] | go_values | go_skip | go_guarded | go_step | go_upon)
  go_ret
  exact ⟨rfl, H.old⟩

set_option maxHeartbeats 8000000 in
set_option maxRecDepth 100000 in
theorem rorises_CCt (c : Ca) (aR : Option Addr) (cR : Nat) (aD : Option Addr) (cD : Nat) (n z k a b p q x : Int) (w : World) (hL : FactsW w) (hCc : CalAt w c aR cR aD cD) (bz : 0 ≤ z ∧ z < 256) (bk : 0 ≤ k ∧ k < 256) (hf : decide (c.nr ≤ 12 ∧ c.nd ≤ 60) = true) (hS : c.Small) (hM : c.May) (hd : decide (1 ≤ n ∧ n ≤ 3652059) = true) (nb : 1 ≤ n ∧ n ≤ 3652059) (hr : n + z ≤ 3652059) (h1 : StepIs c 1 n a 0) (h2 : StepIs c 1 (n + z) b 0) (h3 : StepIs c (-1) n p 0) (h4 : StepIs c (-1) (n + z) q 0) (h5 : ToIs c n (k % 5) x 0) (h6 : ToIs c x (k % 5) x 0) (bx : -9223372036854775808 ≤ x ∧ x < 9223372036854775808) (hab : decide (a > b) = false) (hpq : decide (p > q) = false) :
    Calls Tryd.prog 6 #[.agg #[.bool (c.o 0), .bool (c.o 1), .bool (c.o 2), .bool (c.o 3), .bool (c.o 4), .bool (c.o 5), .bool (c.o 6), .slice aR c.nr cR, .slice aD c.nd cD, .int .i64 n, .int .u8 z, .int .u8 k]] w fun e w' => e = .returned (.bool true) ∧ Below w.heap.size w w' := by
  have H := ((Held.start w).add (f := factsWF) hL).add (f := calF c aR cR aD cD) hCc
  clear hL hCc
  have t0 : decide (n + z > 3652059) = false := decide_eq_false (by omega)
  have HF := Lib.hid hf
  have HZ := Lib.hid hS
  have MM := Lib.hid hM
  have HD := Lib.hid hd
  have H1 := Lib.hid h1
  have H2 := Lib.hid h2
  have H3 := Lib.hid h3
  have H4 := Lib.hid h4
  have H5 := Lib.hid h5
  have H6 := Lib.hid h6
  clear hf hS hM hd h1 h2 h3 h4 h5 h6
  go_enter Tryd.func6, Tryd.ntmps6
  go_wp2_with fail
  replace H := ((H.box_12 (w.heap.size) (.bool (c.o 0)) (.bool (c.o 1)) (.bool (c.o 2)) (.bool (c.o 3)) (.bool (c.o 4)) (.bool (c.o 5)) (.bool (c.o 6)) (.slice aR c.nr cR) (.slice aD c.nd cD) (.int .i64 n) (.int .u8 z) (.int .u8 k) 50 rfl).box_9 (w.heap.size + 1) (.bool (c.o 0)) (.bool (c.o 1)) (.bool (c.o 2)) (.bool (c.o 3)) (.bool (c.o 4)) (.bool (c.o 5)) (.bool (c.o 6)) (.slice aR c.nr cR) (.slice aD c.nd cD) 26 (by simp))
  (with_reducible refine (roshown_any _ (H.factsW (mt32 (mt8 (mt1 (mt1 (mt1 mh))))))).mono ?_)
  rintro e w1 ⟨rfl, hb⟩
  replace H := H.below hb
  clear hb
  have cc0 := H.cell (w.heap.size + 1) 0 (.bool (c.o 0)) mh
  have cc1 := H.cell (w.heap.size + 1) 1 (.bool (c.o 1)) (mt1 mh)
  have cc2 := H.cell (w.heap.size + 1) 2 (.bool (c.o 2)) (mt1 (mt1 mh))
  have cc3 := H.cell (w.heap.size + 1) 3 (.bool (c.o 3)) (mt1 (mt1 (mt1 mh)))
  have cc4 := H.cell (w.heap.size + 1) 4 (.bool (c.o 4)) (mt1 (mt1 (mt1 (mt1 mh))))
  have cc5 := H.cell (w.heap.size + 1) 5 (.bool (c.o 5)) (mt1 (mt1 (mt1 (mt1 (mt1 mh)))))
  have cc6 := H.cell (w.heap.size + 1) 6 (.bool (c.o 6)) (mt1 (mt1 (mt1 (mt1 (mt1 (mt1 mh))))))
  have cc7 := H.cell (w.heap.size + 1) 7 (.slice aR c.nr cR) (mt1 (mt1 (mt1 (mt1 (mt1 (mt1 (mt1 mh)))))))
  have cc8 := H.cell (w.heap.size + 1) 8 (.slice aD c.nd cD) (mt8 mh)
  have lc := H.lt (w.heap.size + 1) 0 (.bool (c.o 0)) mh
  go_wp2_with fail
  clear cc0 cc1 cc2 cc3 cc4 cc5 cc6 cc7 cc8 lc
  (with_reducible refine (few_any c aR cR aD cD true _ HF.out).mono ?_)
  rintro e w2 ⟨rfl, hb⟩
  replace H := H.below hb
  clear hb
  have cc0 := H.cell (w.heap.size + 1) 0 (.bool (c.o 0)) mh
  have cc1 := H.cell (w.heap.size + 1) 1 (.bool (c.o 1)) (mt1 mh)
  have cc2 := H.cell (w.heap.size + 1) 2 (.bool (c.o 2)) (mt1 (mt1 mh))
  have cc3 := H.cell (w.heap.size + 1) 3 (.bool (c.o 3)) (mt1 (mt1 (mt1 mh)))
  have cc4 := H.cell (w.heap.size + 1) 4 (.bool (c.o 4)) (mt1 (mt1 (mt1 (mt1 mh))))
  have cc5 := H.cell (w.heap.size + 1) 5 (.bool (c.o 5)) (mt1 (mt1 (mt1 (mt1 (mt1 mh)))))
  have cc6 := H.cell (w.heap.size + 1) 6 (.bool (c.o 6)) (mt1 (mt1 (mt1 (mt1 (mt1 (mt1 mh))))))
  have cc7 := H.cell (w.heap.size + 1) 7 (.slice aR c.nr cR) (mt1 (mt1 (mt1 (mt1 (mt1 (mt1 (mt1 mh)))))))
  have cc8 := H.cell (w.heap.size + 1) 8 (.slice aD c.nd cD) (mt8 mh)
  have lc := H.lt (w.heap.size + 1) 0 (.bool (c.o 0)) mh
  go_wp2_with fail
  clear cc0 cc1 cc2 cc3 cc4 cc5 cc6 cc7 cc8 lc
  (with_reducible refine (rcmay_any c aR cR aD cD true _ HZ.out (H.cal (mt32 (mt8 (mt1 (mt1 mh))))) ⟨fun _ => MM.out, fun _ => rfl⟩).mono ?_)
  rintro e w3 ⟨rfl, hb⟩
  replace H := H.below hb
  clear hb
  have cc0 := H.cell (w.heap.size + 1) 0 (.bool (c.o 0)) mh
  have cc1 := H.cell (w.heap.size + 1) 1 (.bool (c.o 1)) (mt1 mh)
  have cc2 := H.cell (w.heap.size + 1) 2 (.bool (c.o 2)) (mt1 (mt1 mh))
  have cc3 := H.cell (w.heap.size + 1) 3 (.bool (c.o 3)) (mt1 (mt1 (mt1 mh)))
  have cc4 := H.cell (w.heap.size + 1) 4 (.bool (c.o 4)) (mt1 (mt1 (mt1 (mt1 mh))))
  have cc5 := H.cell (w.heap.size + 1) 5 (.bool (c.o 5)) (mt1 (mt1 (mt1 (mt1 (mt1 mh)))))
  have cc6 := H.cell (w.heap.size + 1) 6 (.bool (c.o 6)) (mt1 (mt1 (mt1 (mt1 (mt1 (mt1 mh))))))
  have cc7 := H.cell (w.heap.size + 1) 7 (.slice aR c.nr cR) (mt1 (mt1 (mt1 (mt1 (mt1 (mt1 (mt1 mh)))))))
  have cc8 := H.cell (w.heap.size + 1) 8 (.slice aD c.nd cD) (mt8 mh)
  have lc := H.lt (w.heap.size + 1) 0 (.bool (c.o 0)) mh
  go_wp2_with fail
  clear cc0 cc1 cc2 cc3 cc4 cc5 cc6 cc7 cc8 lc
  (with_reducible refine (Calls.same (rday13_is n true _ HD.out)).mono ?_)
  rintro e w4 ⟨rfl, hb⟩
  replace H := H.below hb
  clear hb
  have cc0 := H.cell (w.heap.size + 1) 0 (.bool (c.o 0)) mh
  have cc1 := H.cell (w.heap.size + 1) 1 (.bool (c.o 1)) (mt1 mh)
  have cc2 := H.cell (w.heap.size + 1) 2 (.bool (c.o 2)) (mt1 (mt1 mh))
  have cc3 := H.cell (w.heap.size + 1) 3 (.bool (c.o 3)) (mt1 (mt1 (mt1 mh)))
  have cc4 := H.cell (w.heap.size + 1) 4 (.bool (c.o 4)) (mt1 (mt1 (mt1 (mt1 mh))))
  have cc5 := H.cell (w.heap.size + 1) 5 (.bool (c.o 5)) (mt1 (mt1 (mt1 (mt1 (mt1 mh)))))
  have cc6 := H.cell (w.heap.size + 1) 6 (.bool (c.o 6)) (mt1 (mt1 (mt1 (mt1 (mt1 (mt1 mh))))))
  have cc7 := H.cell (w.heap.size + 1) 7 (.slice aR c.nr cR) (mt1 (mt1 (mt1 (mt1 (mt1 (mt1 (mt1 mh)))))))
  have cc8 := H.cell (w.heap.size + 1) 8 (.slice aD c.nd cD) (mt8 mh)
  have lc := H.lt (w.heap.size + 1) 0 (.bool (c.o 0)) mh
  go_wp2_with fail
  clear cc0 cc1 cc2 cc3 cc4 cc5 cc6 cc7 cc8 lc
  (with_reducible refine (next_is c aR cR aD cD n a 0 _ (H.factsW (mt32 (mt8 (mt1 (mt1 (mt1 mh)))))) MM.out (H.cal (mt32 (mt8 (mt1 (mt1 mh))))) (by omega) H1.out).mono ?_)
  rintro e w5 ⟨rfl, hb⟩
  replace H := H.below hb
  clear hb
  have cc0 := H.cell (w.heap.size + 1) 0 (.bool (c.o 0)) mh
  have cc1 := H.cell (w.heap.size + 1) 1 (.bool (c.o 1)) (mt1 mh)
  have cc2 := H.cell (w.heap.size + 1) 2 (.bool (c.o 2)) (mt1 (mt1 mh))
  have cc3 := H.cell (w.heap.size + 1) 3 (.bool (c.o 3)) (mt1 (mt1 (mt1 mh)))
  have cc4 := H.cell (w.heap.size + 1) 4 (.bool (c.o 4)) (mt1 (mt1 (mt1 (mt1 mh))))
  have cc5 := H.cell (w.heap.size + 1) 5 (.bool (c.o 5)) (mt1 (mt1 (mt1 (mt1 (mt1 mh)))))
  have cc6 := H.cell (w.heap.size + 1) 6 (.bool (c.o 6)) (mt1 (mt1 (mt1 (mt1 (mt1 (mt1 mh))))))
  have cc7 := H.cell (w.heap.size + 1) 7 (.slice aR c.nr cR) (mt1 (mt1 (mt1 (mt1 (mt1 (mt1 (mt1 mh)))))))
  have cc8 := H.cell (w.heap.size + 1) 8 (.slice aD c.nd cD) (mt8 mh)
  have lc := H.lt (w.heap.size + 1) 0 (.bool (c.o 0)) mh
  go_wp2_with fail
  clear cc0 cc1 cc2 cc3 cc4 cc5 cc6 cc7 cc8 lc
  (with_reducible refine (next_is c aR cR aD cD (n + z) b 0 _ (H.factsW (mt32 (mt8 (mt1 (mt1 (mt1 mh)))))) MM.out (H.cal (mt32 (mt8 (mt1 (mt1 mh))))) (by omega) H2.out).mono ?_)
  rintro e w6 ⟨rfl, hb⟩
  replace H := H.below hb
  clear hb
  have cc0 := H.cell (w.heap.size + 1) 0 (.bool (c.o 0)) mh
  have cc1 := H.cell (w.heap.size + 1) 1 (.bool (c.o 1)) (mt1 mh)
  have cc2 := H.cell (w.heap.size + 1) 2 (.bool (c.o 2)) (mt1 (mt1 mh))
  have cc3 := H.cell (w.heap.size + 1) 3 (.bool (c.o 3)) (mt1 (mt1 (mt1 mh)))
  have cc4 := H.cell (w.heap.size + 1) 4 (.bool (c.o 4)) (mt1 (mt1 (mt1 (mt1 mh))))
  have cc5 := H.cell (w.heap.size + 1) 5 (.bool (c.o 5)) (mt1 (mt1 (mt1 (mt1 (mt1 mh)))))
  have cc6 := H.cell (w.heap.size + 1) 6 (.bool (c.o 6)) (mt1 (mt1 (mt1 (mt1 (mt1 (mt1 mh))))))
  have cc7 := H.cell (w.heap.size + 1) 7 (.slice aR c.nr cR) (mt1 (mt1 (mt1 (mt1 (mt1 (mt1 (mt1 mh)))))))
  have cc8 := H.cell (w.heap.size + 1) 8 (.slice aD c.nd cD) (mt8 mh)
  have lc := H.lt (w.heap.size + 1) 0 (.bool (c.o 0)) mh
  go_wp2_with fail
  clear cc0 cc1 cc2 cc3 cc4 cc5 cc6 cc7 cc8 lc
  (with_reducible refine (prev_is c aR cR aD cD n p 0 _ (H.factsW (mt32 (mt8 (mt1 (mt1 (mt1 mh)))))) MM.out (H.cal (mt32 (mt8 (mt1 (mt1 mh))))) (by omega) H3.out).mono ?_)
  rintro e w7 ⟨rfl, hb⟩
  replace H := H.below hb
  clear hb
  have cc0 := H.cell (w.heap.size + 1) 0 (.bool (c.o 0)) mh
  have cc1 := H.cell (w.heap.size + 1) 1 (.bool (c.o 1)) (mt1 mh)
  have cc2 := H.cell (w.heap.size + 1) 2 (.bool (c.o 2)) (mt1 (mt1 mh))
  have cc3 := H.cell (w.heap.size + 1) 3 (.bool (c.o 3)) (mt1 (mt1 (mt1 mh)))
  have cc4 := H.cell (w.heap.size + 1) 4 (.bool (c.o 4)) (mt1 (mt1 (mt1 (mt1 mh))))
  have cc5 := H.cell (w.heap.size + 1) 5 (.bool (c.o 5)) (mt1 (mt1 (mt1 (mt1 (mt1 mh)))))
  have cc6 := H.cell (w.heap.size + 1) 6 (.bool (c.o 6)) (mt1 (mt1 (mt1 (mt1 (mt1 (mt1 mh))))))
  have cc7 := H.cell (w.heap.size + 1) 7 (.slice aR c.nr cR) (mt1 (mt1 (mt1 (mt1 (mt1 (mt1 (mt1 mh)))))))
  have cc8 := H.cell (w.heap.size + 1) 8 (.slice aD c.nd cD) (mt8 mh)
  have lc := H.lt (w.heap.size + 1) 0 (.bool (c.o 0)) mh
  go_wp2_with fail
  clear cc0 cc1 cc2 cc3 cc4 cc5 cc6 cc7 cc8 lc
  (with_reducible refine (prev_is c aR cR aD cD (n + z) q 0 _ (H.factsW (mt32 (mt8 (mt1 (mt1 (mt1 mh)))))) MM.out (H.cal (mt32 (mt8 (mt1 (mt1 mh))))) (by omega) H4.out).mono ?_)
  rintro e w8 ⟨rfl, hb⟩
  replace H := H.below hb
  clear hb
  have cc0 := H.cell (w.heap.size + 1) 0 (.bool (c.o 0)) mh
  have cc1 := H.cell (w.heap.size + 1) 1 (.bool (c.o 1)) (mt1 mh)
  have cc2 := H.cell (w.heap.size + 1) 2 (.bool (c.o 2)) (mt1 (mt1 mh))
  have cc3 := H.cell (w.heap.size + 1) 3 (.bool (c.o 3)) (mt1 (mt1 (mt1 mh)))
  have cc4 := H.cell (w.heap.size + 1) 4 (.bool (c.o 4)) (mt1 (mt1 (mt1 (mt1 mh))))
  have cc5 := H.cell (w.heap.size + 1) 5 (.bool (c.o 5)) (mt1 (mt1 (mt1 (mt1 (mt1 mh)))))
  have cc6 := H.cell (w.heap.size + 1) 6 (.bool (c.o 6)) (mt1 (mt1 (mt1 (mt1 (mt1 (mt1 mh))))))
  have cc7 := H.cell (w.heap.size + 1) 7 (.slice aR c.nr cR) (mt1 (mt1 (mt1 (mt1 (mt1 (mt1 (mt1 mh)))))))
  have cc8 := H.cell (w.heap.size + 1) 8 (.slice aD c.nd cD) (mt8 mh)
  have lc := H.lt (w.heap.size + 1) 0 (.bool (c.o 0)) mh
  repeat' (first | simp only [List.append_eq, List.cons_append, List.nil_append] | go_values | go_skip | go_guarded | go_step | go_upon)
  clear cc0 cc1 cc2 cc3 cc4 cc5 cc6 cc7 cc8 lc
  (with_reducible refine (to_is14 c aR cR aD cD n (k % 5) x 0 _ (H.factsW (mt32 (mt8 (mt1 (mt1 (mt1 mh)))))) MM.out (H.cal (mt32 (mt8 (mt1 (mt1 mh))))) (by omega) H5.out).mono ?_)
  rintro e w9 ⟨rfl, hb⟩
  replace H := H.below hb
  clear hb
  have cc0 := H.cell (w.heap.size + 1) 0 (.bool (c.o 0)) mh
  have cc1 := H.cell (w.heap.size + 1) 1 (.bool (c.o 1)) (mt1 mh)
  have cc2 := H.cell (w.heap.size + 1) 2 (.bool (c.o 2)) (mt1 (mt1 mh))
  have cc3 := H.cell (w.heap.size + 1) 3 (.bool (c.o 3)) (mt1 (mt1 (mt1 mh)))
  have cc4 := H.cell (w.heap.size + 1) 4 (.bool (c.o 4)) (mt1 (mt1 (mt1 (mt1 mh))))
  have cc5 := H.cell (w.heap.size + 1) 5 (.bool (c.o 5)) (mt1 (mt1 (mt1 (mt1 (mt1 mh)))))
  have cc6 := H.cell (w.heap.size + 1) 6 (.bool (c.o 6)) (mt1 (mt1 (mt1 (mt1 (mt1 (mt1 mh))))))
  have cc7 := H.cell (w.heap.size + 1) 7 (.slice aR c.nr cR) (mt1 (mt1 (mt1 (mt1 (mt1 (mt1 (mt1 mh)))))))
  have cc8 := H.cell (w.heap.size + 1) 8 (.slice aD c.nd cD) (mt8 mh)
  have lc := H.lt (w.heap.size + 1) 0 (.bool (c.o 0)) mh
  repeat' (first | simp only [List.append_eq, List.cons_append, List.nil_append] | go_values | go_skip | go_guarded | go_step | go_upon)
  clear cc0 cc1 cc2 cc3 cc4 cc5 cc6 cc7 cc8 lc
  (with_reducible refine (to_is14 c aR cR aD cD x (k % 5) x 0 _ (H.factsW (mt32 (mt8 (mt1 (mt1 (mt1 mh)))))) MM.out (H.cal (mt32 (mt8 (mt1 (mt1 mh))))) bx H6.out).mono ?_)
  rintro e w10 ⟨rfl, hb⟩
  replace H := H.below hb
  clear hb
  repeat' (first | simp only [List.append_eq, List.cons_append, List.nil_append] | go_values | go_skip | go_guarded | go_step | go_upon)
  go_ret
  exact ⟨rfl, H.old⟩

set_option maxHeartbeats 8000000 in
set_option maxRecDepth 100000 in
theorem rorises_CCf (c : Ca) (aR : Option Addr) (cR : Nat) (aD : Option Addr) (cD : Nat) (n z k a b p q i : Int) (w : World) (hL : FactsW w) (hCc : CalAt w c aR cR aD cD) (bz : 0 ≤ z ∧ z < 256) (bk : 0 ≤ k ∧ k < 256) (hf : decide (c.nr ≤ 12 ∧ c.nd ≤ 60) = true) (hS : c.Small) (hM : c.May) (hd : decide (1 ≤ n ∧ n ≤ 3652059) = true) (nb : 1 ≤ n ∧ n ≤ 3652059) (hr : n + z ≤ 3652059) (h1 : StepIs c 1 n a 0) (h2 : StepIs c 1 (n + z) b 0) (h3 : StepIs c (-1) n p 0) (h4 : StepIs c (-1) (n + z) q 0) (h5 : ToIs c n (k % 5) 0 i) (ki : (i == 0) = false) (hab : decide (a > b) = false) (hpq : decide (p > q) = false) :
    Calls Tryd.prog 6 #[.agg #[.bool (c.o 0), .bool (c.o 1), .bool (c.o 2), .bool (c.o 3), .bool (c.o 4), .bool (c.o 5), .bool (c.o 6), .slice aR c.nr cR, .slice aD c.nd cD, .int .i64 n, .int .u8 z, .int .u8 k]] w fun e w' => e = .returned (.bool true) ∧ Below w.heap.size w w' := by
  have H := ((Held.start w).add (f := factsWF) hL).add (f := calF c aR cR aD cD) hCc
  clear hL hCc
  have t0 : decide (n + z > 3652059) = false := decide_eq_false (by omega)
  have zi : (i != 0) = true := by simpa using ki
  have HF := Lib.hid hf
  have HZ := Lib.hid hS
  have MM := Lib.hid hM
  have HD := Lib.hid hd
  have H1 := Lib.hid h1
  have H2 := Lib.hid h2
  have H3 := Lib.hid h3
  have H4 := Lib.hid h4
  have H5 := Lib.hid h5
  clear hf hS hM hd h1 h2 h3 h4 h5
  go_enter Tryd.func6, Tryd.ntmps6
  go_wp2_with fail
  replace H := ((H.box_12 (w.heap.size) (.bool (c.o 0)) (.bool (c.o 1)) (.bool (c.o 2)) (.bool (c.o 3)) (.bool (c.o 4)) (.bool (c.o 5)) (.bool (c.o 6)) (.slice aR c.nr cR) (.slice aD c.nd cD) (.int .i64 n) (.int .u8 z) (.int .u8 k) 50 rfl).box_9 (w.heap.size + 1) (.bool (c.o 0)) (.bool (c.o 1)) (.bool (c.o 2)) (.bool (c.o 3)) (.bool (c.o 4)) (.bool (c.o 5)) (.bool (c.o 6)) (.slice aR c.nr cR) (.slice aD c.nd cD) 26 (by simp))
  (with_reducible refine (roshown_any _ (H.factsW (mt32 (mt8 (mt1 (mt1 (mt1 mh))))))).mono ?_)
  rintro e w1 ⟨rfl, hb⟩
  replace H := H.below hb
  clear hb
  have cc0 := H.cell (w.heap.size + 1) 0 (.bool (c.o 0)) mh
  have cc1 := H.cell (w.heap.size + 1) 1 (.bool (c.o 1)) (mt1 mh)
  have cc2 := H.cell (w.heap.size + 1) 2 (.bool (c.o 2)) (mt1 (mt1 mh))
  have cc3 := H.cell (w.heap.size + 1) 3 (.bool (c.o 3)) (mt1 (mt1 (mt1 mh)))
  have cc4 := H.cell (w.heap.size + 1) 4 (.bool (c.o 4)) (mt1 (mt1 (mt1 (mt1 mh))))
  have cc5 := H.cell (w.heap.size + 1) 5 (.bool (c.o 5)) (mt1 (mt1 (mt1 (mt1 (mt1 mh)))))
  have cc6 := H.cell (w.heap.size + 1) 6 (.bool (c.o 6)) (mt1 (mt1 (mt1 (mt1 (mt1 (mt1 mh))))))
  have cc7 := H.cell (w.heap.size + 1) 7 (.slice aR c.nr cR) (mt1 (mt1 (mt1 (mt1 (mt1 (mt1 (mt1 mh)))))))
  have cc8 := H.cell (w.heap.size + 1) 8 (.slice aD c.nd cD) (mt8 mh)
  have lc := H.lt (w.heap.size + 1) 0 (.bool (c.o 0)) mh
  go_wp2_with fail
  clear cc0 cc1 cc2 cc3 cc4 cc5 cc6 cc7 cc8 lc
  (with_reducible refine (few_any c aR cR aD cD true _ HF.out).mono ?_)
  rintro e w2 ⟨rfl, hb⟩
  replace H := H.below hb
  clear hb
  have cc0 := H.cell (w.heap.size + 1) 0 (.bool (c.o 0)) mh
  have cc1 := H.cell (w.heap.size + 1) 1 (.bool (c.o 1)) (mt1 mh)
  have cc2 := H.cell (w.heap.size + 1) 2 (.bool (c.o 2)) (mt1 (mt1 mh))
  have cc3 := H.cell (w.heap.size + 1) 3 (.bool (c.o 3)) (mt1 (mt1 (mt1 mh)))
  have cc4 := H.cell (w.heap.size + 1) 4 (.bool (c.o 4)) (mt1 (mt1 (mt1 (mt1 mh))))
  have cc5 := H.cell (w.heap.size + 1) 5 (.bool (c.o 5)) (mt1 (mt1 (mt1 (mt1 (mt1 mh)))))
  have cc6 := H.cell (w.heap.size + 1) 6 (.bool (c.o 6)) (mt1 (mt1 (mt1 (mt1 (mt1 (mt1 mh))))))
  have cc7 := H.cell (w.heap.size + 1) 7 (.slice aR c.nr cR) (mt1 (mt1 (mt1 (mt1 (mt1 (mt1 (mt1 mh)))))))
  have cc8 := H.cell (w.heap.size + 1) 8 (.slice aD c.nd cD) (mt8 mh)
  have lc := H.lt (w.heap.size + 1) 0 (.bool (c.o 0)) mh
  go_wp2_with fail
  clear cc0 cc1 cc2 cc3 cc4 cc5 cc6 cc7 cc8 lc
  (with_reducible refine (rcmay_any c aR cR aD cD true _ HZ.out (H.cal (mt32 (mt8 (mt1 (mt1 mh))))) ⟨fun _ => MM.out, fun _ => rfl⟩).mono ?_)
  rintro e w3 ⟨rfl, hb⟩
  replace H := H.below hb
  clear hb
  have cc0 := H.cell (w.heap.size + 1) 0 (.bool (c.o 0)) mh
  have cc1 := H.cell (w.heap.size + 1) 1 (.bool (c.o 1)) (mt1 mh)
  have cc2 := H.cell (w.heap.size + 1) 2 (.bool (c.o 2)) (mt1 (mt1 mh))
  have cc3 := H.cell (w.heap.size + 1) 3 (.bool (c.o 3)) (mt1 (mt1 (mt1 mh)))
  have cc4 := H.cell (w.heap.size + 1) 4 (.bool (c.o 4)) (mt1 (mt1 (mt1 (mt1 mh))))
  have cc5 := H.cell (w.heap.size + 1) 5 (.bool (c.o 5)) (mt1 (mt1 (mt1 (mt1 (mt1 mh)))))
  have cc6 := H.cell (w.heap.size + 1) 6 (.bool (c.o 6)) (mt1 (mt1 (mt1 (mt1 (mt1 (mt1 mh))))))
  have cc7 := H.cell (w.heap.size + 1) 7 (.slice aR c.nr cR) (mt1 (mt1 (mt1 (mt1 (mt1 (mt1 (mt1 mh)))))))
  have cc8 := H.cell (w.heap.size + 1) 8 (.slice aD c.nd cD) (mt8 mh)
  have lc := H.lt (w.heap.size + 1) 0 (.bool (c.o 0)) mh
  go_wp2_with fail
  clear cc0 cc1 cc2 cc3 cc4 cc5 cc6 cc7 cc8 lc
  (with_reducible refine (Calls.same (rday13_is n true _ HD.out)).mono ?_)
  rintro e w4 ⟨rfl, hb⟩
  replace H := H.below hb
  clear hb
  have cc0 := H.cell (w.heap.size + 1) 0 (.bool (c.o 0)) mh
  have cc1 := H.cell (w.heap.size + 1) 1 (.bool (c.o 1)) (mt1 mh)
  have cc2 := H.cell (w.heap.size + 1) 2 (.bool (c.o 2)) (mt1 (mt1 mh))
  have cc3 := H.cell (w.heap.size + 1) 3 (.bool (c.o 3)) (mt1 (mt1 (mt1 mh)))
  have cc4 := H.cell (w.heap.size + 1) 4 (.bool (c.o 4)) (mt1 (mt1 (mt1 (mt1 mh))))
  have cc5 := H.cell (w.heap.size + 1) 5 (.bool (c.o 5)) (mt1 (mt1 (mt1 (mt1 (mt1 mh)))))
  have cc6 := H.cell (w.heap.size + 1) 6 (.bool (c.o 6)) (mt1 (mt1 (mt1 (mt1 (mt1 (mt1 mh))))))
  have cc7 := H.cell (w.heap.size + 1) 7 (.slice aR c.nr cR) (mt1 (mt1 (mt1 (mt1 (mt1 (mt1 (mt1 mh)))))))
  have cc8 := H.cell (w.heap.size + 1) 8 (.slice aD c.nd cD) (mt8 mh)
  have lc := H.lt (w.heap.size + 1) 0 (.bool (c.o 0)) mh
  go_wp2_with fail
  clear cc0 cc1 cc2 cc3 cc4 cc5 cc6 cc7 cc8 lc
  (with_reducible refine (next_is c aR cR aD cD n a 0 _ (H.factsW (mt32 (mt8 (mt1 (mt1 (mt1 mh)))))) MM.out (H.cal (mt32 (mt8 (mt1 (mt1 mh))))) (by omega) H1.out).mono ?_)
  rintro e w5 ⟨rfl, hb⟩
  replace H := H.below hb
  clear hb
  have cc0 := H.cell (w.heap.size + 1) 0 (.bool (c.o 0)) mh
  have cc1 := H.cell (w.heap.size + 1) 1 (.bool (c.o 1)) (mt1 mh)
  have cc2 := H.cell (w.heap.size + 1) 2 (.bool (c.o 2)) (mt1 (mt1 mh))
  have cc3 := H.cell (w.heap.size + 1) 3 (.bool (c.o 3)) (mt1 (mt1 (mt1 mh)))
  have cc4 := H.cell (w.heap.size + 1) 4 (.bool (c.o 4)) (mt1 (mt1 (mt1 (mt1 mh))))
  have cc5 := H.cell (w.heap.size + 1) 5 (.bool (c.o 5)) (mt1 (mt1 (mt1 (mt1 (mt1 mh)))))
  have cc6 := H.cell (w.heap.size + 1) 6 (.bool (c.o 6)) (mt1 (mt1 (mt1 (mt1 (mt1 (mt1 mh))))))
  have cc7 := H.cell (w.heap.size + 1) 7 (.slice aR c.nr cR) (mt1 (mt1 (mt1 (mt1 (mt1 (mt1 (mt1 mh)))))))
  have cc8 := H.cell (w.heap.size + 1) 8 (.slice aD c.nd cD) (mt8 mh)
  have lc := H.lt (w.heap.size + 1) 0 (.bool (c.o 0)) mh
  go_wp2_with fail
  clear cc0 cc1 cc2 cc3 cc4 cc5 cc6 cc7 cc8 lc
  (with_reducible refine (next_is c aR cR aD cD (n + z) b 0 _ (H.factsW (mt32 (mt8 (mt1 (mt1 (mt1 mh)))))) MM.out (H.cal (mt32 (mt8 (mt1 (mt1 mh))))) (by omega) H2.out).mono ?_)
  rintro e w6 ⟨rfl, hb⟩
  replace H := H.below hb
  clear hb
  have cc0 := H.cell (w.heap.size + 1) 0 (.bool (c.o 0)) mh
  have cc1 := H.cell (w.heap.size + 1) 1 (.bool (c.o 1)) (mt1 mh)
  have cc2 := H.cell (w.heap.size + 1) 2 (.bool (c.o 2)) (mt1 (mt1 mh))
  have cc3 := H.cell (w.heap.size + 1) 3 (.bool (c.o 3)) (mt1 (mt1 (mt1 mh)))
  have cc4 := H.cell (w.heap.size + 1) 4 (.bool (c.o 4)) (mt1 (mt1 (mt1 (mt1 mh))))
  have cc5 := H.cell (w.heap.size + 1) 5 (.bool (c.o 5)) (mt1 (mt1 (mt1 (mt1 (mt1 mh)))))
  have cc6 := H.cell (w.heap.size + 1) 6 (.bool (c.o 6)) (mt1 (mt1 (mt1 (mt1 (mt1 (mt1 mh))))))
  have cc7 := H.cell (w.heap.size + 1) 7 (.slice aR c.nr cR) (mt1 (mt1 (mt1 (mt1 (mt1 (mt1 (mt1 mh)))))))
  have cc8 := H.cell (w.heap.size + 1) 8 (.slice aD c.nd cD) (mt8 mh)
  have lc := H.lt (w.heap.size + 1) 0 (.bool (c.o 0)) mh
  go_wp2_with fail
  clear cc0 cc1 cc2 cc3 cc4 cc5 cc6 cc7 cc8 lc
  (with_reducible refine (prev_is c aR cR aD cD n p 0 _ (H.factsW (mt32 (mt8 (mt1 (mt1 (mt1 mh)))))) MM.out (H.cal (mt32 (mt8 (mt1 (mt1 mh))))) (by omega) H3.out).mono ?_)
  rintro e w7 ⟨rfl, hb⟩
  replace H := H.below hb
  clear hb
  have cc0 := H.cell (w.heap.size + 1) 0 (.bool (c.o 0)) mh
  have cc1 := H.cell (w.heap.size + 1) 1 (.bool (c.o 1)) (mt1 mh)
  have cc2 := H.cell (w.heap.size + 1) 2 (.bool (c.o 2)) (mt1 (mt1 mh))
  have cc3 := H.cell (w.heap.size + 1) 3 (.bool (c.o 3)) (mt1 (mt1 (mt1 mh)))
  have cc4 := H.cell (w.heap.size + 1) 4 (.bool (c.o 4)) (mt1 (mt1 (mt1 (mt1 mh))))
  have cc5 := H.cell (w.heap.size + 1) 5 (.bool (c.o 5)) (mt1 (mt1 (mt1 (mt1 (mt1 mh)))))
  have cc6 := H.cell (w.heap.size + 1) 6 (.bool (c.o 6)) (mt1 (mt1 (mt1 (mt1 (mt1 (mt1 mh))))))
  have cc7 := H.cell (w.heap.size + 1) 7 (.slice aR c.nr cR) (mt1 (mt1 (mt1 (mt1 (mt1 (mt1 (mt1 mh)))))))
  have cc8 := H.cell (w.heap.size + 1) 8 (.slice aD c.nd cD) (mt8 mh)
  have lc := H.lt (w.heap.size + 1) 0 (.bool (c.o 0)) mh
  go_wp2_with fail
  clear cc0 cc1 cc2 cc3 cc4 cc5 cc6 cc7 cc8 lc
  (with_reducible refine (prev_is c aR cR aD cD (n + z) q 0 _ (H.factsW (mt32 (mt8 (mt1 (mt1 (mt1 mh)))))) MM.out (H.cal (mt32 (mt8 (mt1 (mt1 mh))))) (by omega) H4.out).mono ?_)
  rintro e w8 ⟨rfl, hb⟩
  replace H := H.below hb
  clear hb
  have cc0 := H.cell (w.heap.size + 1) 0 (.bool (c.o 0)) mh
  have cc1 := H.cell (w.heap.size + 1) 1 (.bool (c.o 1)) (mt1 mh)
  have cc2 := H.cell (w.heap.size + 1) 2 (.bool (c.o 2)) (mt1 (mt1 mh))
  have cc3 := H.cell (w.heap.size + 1) 3 (.bool (c.o 3)) (mt1 (mt1 (mt1 mh)))
  have cc4 := H.cell (w.heap.size + 1) 4 (.bool (c.o 4)) (mt1 (mt1 (mt1 (mt1 mh))))
  have cc5 := H.cell (w.heap.size + 1) 5 (.bool (c.o 5)) (mt1 (mt1 (mt1 (mt1 (mt1 mh)))))
  have cc6 := H.cell (w.heap.size + 1) 6 (.bool (c.o 6)) (mt1 (mt1 (mt1 (mt1 (mt1 (mt1 mh))))))
  have cc7 := H.cell (w.heap.size + 1) 7 (.slice aR c.nr cR) (mt1 (mt1 (mt1 (mt1 (mt1 (mt1 (mt1 mh)))))))
  have cc8 := H.cell (w.heap.size + 1) 8 (.slice aD c.nd cD) (mt8 mh)
  have lc := H.lt (w.heap.size + 1) 0 (.bool (c.o 0)) mh
  repeat' (first | simp only [List.append_eq, List.cons_append, List.nil_append] | go_values | go_skip | go_guarded | go_step | go_upon)
  clear cc0 cc1 cc2 cc3 cc4 cc5 cc6 cc7 cc8 lc
  (with_reducible refine (to_is14 c aR cR aD cD n (k % 5) 0 i _ (H.factsW (mt32 (mt8 (mt1 (mt1 (mt1 mh)))))) MM.out (H.cal (mt32 (mt8 (mt1 (mt1 mh))))) (by omega) H5.out).mono ?_)
  rintro e w9 ⟨rfl, hb⟩
  replace H := H.below hb
  clear hb
  repeat' (first | simp only [List.append_eq, List.cons_append, List.nil_append] | go_values | go_skip | go_guarded | go_step | go_upon)
  go_ret
  exact ⟨rfl, H.old⟩

theorem rorises_walk (c : Ca) (aR : Option Addr) (cR : Nat) (aD : Option Addr) (cD : Nat) (n z k : Int) (w : World) (hL : FactsW w) (hC : CalAt w c aR cR aD cD) (bn : -9223372036854775808 ≤ n ∧ n < 9223372036854775808) (bz : 0 ≤ z ∧ z < 256) (bk : 0 ≤ k ∧ k < 256) :
    Calls Tryd.prog 6 #[.agg #[.bool (c.o 0), .bool (c.o 1), .bool (c.o 2), .bool (c.o 3), .bool (c.o 4), .bool (c.o 5), .bool (c.o 6), .slice aR c.nr cR, .slice aD c.nd cD, .int .i64 n, .int .u8 z, .int .u8 k]] w fun e w' => e = .returned (.bool true) ∧ Below w.heap.size w w' := by
  by_cases hf : c.Few
  · by_cases hm : c.May
    · by_cases hd : 1 ≤ n ∧ n ≤ 3652059
      · by_cases hr : 3652059 < n + z
        · exact rorises_far c aR cR aD cD n z k w hL hC bz bk (decide_eq_true hf) hf.small hm (decide_eq_true hd) hd hr
        · obtain ⟨a, e, h1⟩ := step_is c 1 n
          obtain ⟨b, f, h2⟩ := step_is c 1 (n + z)
          obtain ⟨p, g, h3⟩ := step_is c (-1) n
          obtain ⟨q, h, h4⟩ := step_is c (-1) (n + z)
          obtain ⟨x, i, h5⟩ := to_is c n (k % 5)
          have X : e ≠ 0 ∨ (e = 0 ∧ f ≠ 0) ∨ (e = 0 ∧ f = 0) := by omega
          have Y : g ≠ 0 ∨ (g = 0 ∧ h ≠ 0) ∨ (g = 0 ∧ h = 0) := by omega
          have Z : i = 0 ∨ i ≠ 0 := by omega
          rcases X with xe | ⟨rfl, xf⟩ | ⟨rfl, rfl⟩ <;> rcases Y with yg | ⟨rfl, yh⟩ | ⟨rfl, rfl⟩ <;> rcases Z with rfl | zi
          · exact rorises_AAt c aR cR aD cD _ _ _ _ _ _ _ _ _ _ _ _ w hL hC bz bk (decide_eq_true hf) hf.small hm (decide_eq_true hd) hd (by omega) h1 h2 h3 h4 h5 (by simpa using xe) (by simpa using yg) (h5.twice rfl (by omega) (by omega)) (to_bd h5 hd)
          · obtain rfl := h5.zero zi
            exact rorises_AAf c aR cR aD cD _ _ _ _ _ _ _ _ _ _ _ _ w hL hC bz bk (decide_eq_true hf) hf.small hm (decide_eq_true hd) hd (by omega) h1 h2 h3 h4 h5 (by simpa using xe) (by simpa using yg) (by simpa using zi)
          · exact rorises_ABt c aR cR aD cD _ _ _ _ _ _ _ _ _ _ _ w hL hC bz bk (decide_eq_true hf) hf.small hm (decide_eq_true hd) hd (by omega) h1 h2 h3 h4 h5 (by simpa using xe) (by simpa using yh) (h5.twice rfl (by omega) (by omega)) (to_bd h5 hd)
          · obtain rfl := h5.zero zi
            exact rorises_ABf c aR cR aD cD _ _ _ _ _ _ _ _ _ _ _ w hL hC bz bk (decide_eq_true hf) hf.small hm (decide_eq_true hd) hd (by omega) h1 h2 h3 h4 h5 (by simpa using xe) (by simpa using yh) (by simpa using zi)
          · exact rorises_ACt c aR cR aD cD _ _ _ _ _ _ _ _ _ _ w hL hC bz bk (decide_eq_true hf) hf.small hm (decide_eq_true hd) hd (by omega) h1 h2 h3 h4 h5 (by simpa using xe) (h5.twice rfl (by omega) (by omega)) (to_bd h5 hd) (decide_eq_false (by have := prev_up h3 h4 (by omega); omega))
          · obtain rfl := h5.zero zi
            exact rorises_ACf c aR cR aD cD _ _ _ _ _ _ _ _ _ _ w hL hC bz bk (decide_eq_true hf) hf.small hm (decide_eq_true hd) hd (by omega) h1 h2 h3 h4 h5 (by simpa using xe) (by simpa using zi) (decide_eq_false (by have := prev_up h3 h4 (by omega); omega))
          · exact rorises_BAt c aR cR aD cD _ _ _ _ _ _ _ _ _ _ _ w hL hC bz bk (decide_eq_true hf) hf.small hm (decide_eq_true hd) hd (by omega) h1 h2 h3 h4 h5 (by simpa using xf) (by simpa using yg) (h5.twice rfl (by omega) (by omega)) (to_bd h5 hd)
          · obtain rfl := h5.zero zi
            exact rorises_BAf c aR cR aD cD _ _ _ _ _ _ _ _ _ _ _ w hL hC bz bk (decide_eq_true hf) hf.small hm (decide_eq_true hd) hd (by omega) h1 h2 h3 h4 h5 (by simpa using xf) (by simpa using yg) (by simpa using zi)
          · exact rorises_BBt c aR cR aD cD _ _ _ _ _ _ _ _ _ _ w hL hC bz bk (decide_eq_true hf) hf.small hm (decide_eq_true hd) hd (by omega) h1 h2 h3 h4 h5 (by simpa using xf) (by simpa using yh) (h5.twice rfl (by omega) (by omega)) (to_bd h5 hd)
          · obtain rfl := h5.zero zi
            exact rorises_BBf c aR cR aD cD _ _ _ _ _ _ _ _ _ _ w hL hC bz bk (decide_eq_true hf) hf.small hm (decide_eq_true hd) hd (by omega) h1 h2 h3 h4 h5 (by simpa using xf) (by simpa using yh) (by simpa using zi)
          · exact rorises_BCt c aR cR aD cD _ _ _ _ _ _ _ _ _ w hL hC bz bk (decide_eq_true hf) hf.small hm (decide_eq_true hd) hd (by omega) h1 h2 h3 h4 h5 (by simpa using xf) (h5.twice rfl (by omega) (by omega)) (to_bd h5 hd) (decide_eq_false (by have := prev_up h3 h4 (by omega); omega))
          · obtain rfl := h5.zero zi
            exact rorises_BCf c aR cR aD cD _ _ _ _ _ _ _ _ _ w hL hC bz bk (decide_eq_true hf) hf.small hm (decide_eq_true hd) hd (by omega) h1 h2 h3 h4 h5 (by simpa using xf) (by simpa using zi) (decide_eq_false (by have := prev_up h3 h4 (by omega); omega))
          · exact rorises_CAt c aR cR aD cD _ _ _ _ _ _ _ _ _ _ w hL hC bz bk (decide_eq_true hf) hf.small hm (decide_eq_true hd) hd (by omega) h1 h2 h3 h4 h5 (by simpa using yg) (h5.twice rfl (by omega) (by omega)) (to_bd h5 hd) (decide_eq_false (by have := next_up h1 h2 (by omega); omega))
          · obtain rfl := h5.zero zi
            exact rorises_CAf c aR cR aD cD _ _ _ _ _ _ _ _ _ _ w hL hC bz bk (decide_eq_true hf) hf.small hm (decide_eq_true hd) hd (by omega) h1 h2 h3 h4 h5 (by simpa using yg) (by simpa using zi) (decide_eq_false (by have := next_up h1 h2 (by omega); omega))
          · exact rorises_CBt c aR cR aD cD _ _ _ _ _ _ _ _ _ w hL hC bz bk (decide_eq_true hf) hf.small hm (decide_eq_true hd) hd (by omega) h1 h2 h3 h4 h5 (by simpa using yh) (h5.twice rfl (by omega) (by omega)) (to_bd h5 hd) (decide_eq_false (by have := next_up h1 h2 (by omega); omega))
          · obtain rfl := h5.zero zi
            exact rorises_CBf c aR cR aD cD _ _ _ _ _ _ _ _ _ w hL hC bz bk (decide_eq_true hf) hf.small hm (decide_eq_true hd) hd (by omega) h1 h2 h3 h4 h5 (by simpa using yh) (by simpa using zi) (decide_eq_false (by have := next_up h1 h2 (by omega); omega))
          · exact rorises_CCt c aR cR aD cD _ _ _ _ _ _ _ _ w hL hC bz bk (decide_eq_true hf) hf.small hm (decide_eq_true hd) hd (by omega) h1 h2 h3 h4 h5  (h5.twice rfl (by omega) (by omega)) (to_bd h5 hd) (decide_eq_false (by have := next_up h1 h2 (by omega); omega)) (decide_eq_false (by have := prev_up h3 h4 (by omega); omega))
          · obtain rfl := h5.zero zi
            exact rorises_CCf c aR cR aD cD _ _ _ _ _ _ _ _ w hL hC bz bk (decide_eq_true hf) hf.small hm (decide_eq_true hd) hd (by omega) h1 h2 h3 h4 h5  (by simpa using zi) (decide_eq_false (by have := next_up h1 h2 (by omega); omega)) (decide_eq_false (by have := prev_up h3 h4 (by omega); omega))
      · exact rorises_noday c aR cR aD cD n z k w hL hC bz bk bn (decide_eq_true hf) hf.small hm (decide_eq_false hd)
    · exact rorises_no c aR cR aD cD n z k w hL hC bz bk bn (decide_eq_true hf) hf.small hm
  · exact rorises_many c aR cR aD cD n z k w hL hC bz bk bn (decide_eq_false hf)
end Go.Proofs.YtkbhicdcjfpbaaaDoor
