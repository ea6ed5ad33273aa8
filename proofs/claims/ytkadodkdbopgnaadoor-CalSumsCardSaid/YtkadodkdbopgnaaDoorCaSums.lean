/- CalSums: the walk. -/
import Derived.Test.YtkadodkdbopgnaaDoorCaShown
namespace Go.Proofs.YtkadodkdbopgnaaDoor
open Go.RowKit
set_option linter.unusedVariables false
set_option linter.unusedSimpArgs false

theorem Held.box_12 {w W : World} {fs : List Fact} (h : Held w fs W) (B : Nat) (x0 x1 x2 x3 x4 x5 x6 x7 x8 x9 x10 x11 : Value) (t : TypeId) (hB : W.heap.size = B) :
    Held w (.cell B 0 x0 :: .cell B 1 x1 :: .cell B 2 x2 :: .cell B 3 x3 :: .cell B 4 x4 :: .cell B 5 x5 :: .cell B 6 x6 :: .cell B 7 x7 :: .cell B 8 x8 :: .cell B 9 x9 :: .cell B 10 x10 :: .cell B 11 x11 :: .free B 0 :: .free B 1 :: .free B 2 :: .free B 3 :: .free B 4 :: .free B 5 :: .free B 6 :: .free B 7 :: .free B 8 :: .free B 9 :: .free B 10 :: .free B 11 :: fs) (W.alloc (.cells #[x0, x1, x2, x3, x4, x5, x6, x7, x8, x9, x10, x11] t)) := by
  subst hB
  exact ((((((((((((((((((((((((h.alloc _).add (f := .free W.heap.size 11) ⟨by simp, by simp [go_sem]⟩).add (f := .free W.heap.size 10) ⟨by simp, by simp [go_sem]⟩).add (f := .free W.heap.size 9) ⟨by simp, by simp [go_sem]⟩).add (f := .free W.heap.size 8) ⟨by simp, by simp [go_sem]⟩).add (f := .free W.heap.size 7) ⟨by simp, by simp [go_sem]⟩).add (f := .free W.heap.size 6) ⟨by simp, by simp [go_sem]⟩).add (f := .free W.heap.size 5) ⟨by simp, by simp [go_sem]⟩).add (f := .free W.heap.size 4) ⟨by simp, by simp [go_sem]⟩).add (f := .free W.heap.size 3) ⟨by simp, by simp [go_sem]⟩).add (f := .free W.heap.size 2) ⟨by simp, by simp [go_sem]⟩).add (f := .free W.heap.size 1) ⟨by simp, by simp [go_sem]⟩).add (f := .free W.heap.size 0) ⟨by simp, by simp [go_sem]⟩).add (f := .cell W.heap.size 11 x11) (by simp [Fact.at, World.cell?_alloc_new])).add (f := .cell W.heap.size 10 x10) (by simp [Fact.at, World.cell?_alloc_new])).add (f := .cell W.heap.size 9 x9) (by simp [Fact.at, World.cell?_alloc_new])).add (f := .cell W.heap.size 8 x8) (by simp [Fact.at, World.cell?_alloc_new])).add (f := .cell W.heap.size 7 x7) (by simp [Fact.at, World.cell?_alloc_new])).add (f := .cell W.heap.size 6 x6) (by simp [Fact.at, World.cell?_alloc_new])).add (f := .cell W.heap.size 5 x5) (by simp [Fact.at, World.cell?_alloc_new])).add (f := .cell W.heap.size 4 x4) (by simp [Fact.at, World.cell?_alloc_new])).add (f := .cell W.heap.size 3 x3) (by simp [Fact.at, World.cell?_alloc_new])).add (f := .cell W.heap.size 2 x2) (by simp [Fact.at, World.cell?_alloc_new])).add (f := .cell W.heap.size 1 x1) (by simp [Fact.at, World.cell?_alloc_new])).add (f := .cell W.heap.size 0 x0) (by simp [Fact.at, World.cell?_alloc_new])

set_option maxHeartbeats 8000000 in
set_option maxRecDepth 100000 in
theorem casums_many (K : CalWay) (c : Ca) (aR : Option Addr) (cR : Nat) (aD : Option Addr) (cD : Nat) (n i j : Int) (w : World) (hL : FactsV w) (hCc : CalAt w c aR cR aD cD) (bi : 0 ≤ i ∧ i < 256) (bj : 0 ≤ j ∧ j < 256) (hf : decide (c.nr ≤ 12 ∧ c.nd ≤ 60) = false) :
    Calls Tryd.prog 6 #[.agg #[.bool (c.o 0), .bool (c.o 1), .bool (c.o 2), .bool (c.o 3), .bool (c.o 4), .bool (c.o 5), .bool (c.o 6), .slice aR c.nr cR, .slice aD c.nd cD, .int .i64 n, .int .u8 i, .int .u8 j]] w fun e w' => e = .returned (.bool true) ∧ Below w.heap.size w w' := by
  have H := ((Held.start w).add (f := factsVF) hL).add (f := calF c aR cR aD cD) hCc
  clear hL hCc
  have HF := Lib.hid hf
  clear hf
  go_enter Tryd.func6, Tryd.ntmps6
  go_wp2_with fail
  replace H := ((H.box_12 (w.heap.size) (.bool (c.o 0)) (.bool (c.o 1)) (.bool (c.o 2)) (.bool (c.o 3)) (.bool (c.o 4)) (.bool (c.o 5)) (.bool (c.o 6)) (.slice aR c.nr cR) (.slice aD c.nd cD) (.int .i64 n) (.int .u8 i) (.int .u8 j) 45 rfl).box_9 (w.heap.size + 1) (.bool (c.o 0)) (.bool (c.o 1)) (.bool (c.o 2)) (.bool (c.o 3)) (.bool (c.o 4)) (.bool (c.o 5)) (.bool (c.o 6)) (.slice aR c.nr cR) (.slice aD c.nd cD) 26 (by simp))
  (with_reducible refine (cashown_any K _ (H.factsV (List.Mem.tail _ (List.Mem.tail _ (List.Mem.tail _ (List.Mem.tail _ (List.Mem.tail _ (List.Mem.tail _ (List.Mem.tail _ (List.Mem.tail _ (List.Mem.tail _ (List.Mem.tail _ (List.Mem.tail _ (List.Mem.tail _ (List.Mem.tail _ (List.Mem.tail _ (List.Mem.tail _ (List.Mem.tail _ (List.Mem.tail _ (List.Mem.tail _ (List.Mem.tail _ (List.Mem.tail _ (List.Mem.tail _ (List.Mem.tail _ (List.Mem.tail _ (List.Mem.tail _ (List.Mem.tail _ (List.Mem.tail _ (List.Mem.tail _ (List.Mem.tail _ (List.Mem.tail _ (List.Mem.tail _ (List.Mem.tail _ (List.Mem.tail _ (List.Mem.tail _ (List.Mem.tail _ (List.Mem.tail _ (List.Mem.tail _ (List.Mem.tail _ (List.Mem.tail _ (List.Mem.tail _ (List.Mem.tail _ (List.Mem.tail _ (List.Mem.tail _ (List.Mem.tail _ (List.Mem.head _)))))))))))))))))))))))))))))))))))))))))))))).mono ?_)
  rintro e w1 ⟨rfl, hb⟩
  replace H := H.below hb
  clear hb
  have cc0 := H.cell (w.heap.size + 1) 0 (.bool (c.o 0)) (List.Mem.head _)
  have cc1 := H.cell (w.heap.size + 1) 1 (.bool (c.o 1)) (List.Mem.tail _ (List.Mem.head _))
  have cc2 := H.cell (w.heap.size + 1) 2 (.bool (c.o 2)) (List.Mem.tail _ (List.Mem.tail _ (List.Mem.head _)))
  have cc3 := H.cell (w.heap.size + 1) 3 (.bool (c.o 3)) (List.Mem.tail _ (List.Mem.tail _ (List.Mem.tail _ (List.Mem.head _))))
  have cc4 := H.cell (w.heap.size + 1) 4 (.bool (c.o 4)) (List.Mem.tail _ (List.Mem.tail _ (List.Mem.tail _ (List.Mem.tail _ (List.Mem.head _)))))
  have cc5 := H.cell (w.heap.size + 1) 5 (.bool (c.o 5)) (List.Mem.tail _ (List.Mem.tail _ (List.Mem.tail _ (List.Mem.tail _ (List.Mem.tail _ (List.Mem.head _))))))
  have cc6 := H.cell (w.heap.size + 1) 6 (.bool (c.o 6)) (List.Mem.tail _ (List.Mem.tail _ (List.Mem.tail _ (List.Mem.tail _ (List.Mem.tail _ (List.Mem.tail _ (List.Mem.head _)))))))
  have cc7 := H.cell (w.heap.size + 1) 7 (.slice aR c.nr cR) (List.Mem.tail _ (List.Mem.tail _ (List.Mem.tail _ (List.Mem.tail _ (List.Mem.tail _ (List.Mem.tail _ (List.Mem.tail _ (List.Mem.head _))))))))
  have cc8 := H.cell (w.heap.size + 1) 8 (.slice aD c.nd cD) (List.Mem.tail _ (List.Mem.tail _ (List.Mem.tail _ (List.Mem.tail _ (List.Mem.tail _ (List.Mem.tail _ (List.Mem.tail _ (List.Mem.tail _ (List.Mem.head _)))))))))
  have lc := H.lt (w.heap.size + 1) 0 (.bool (c.o 0)) (List.Mem.head _)
  go_wp2_with fail
  clear cc0 cc1 cc2 cc3 cc4 cc5 cc6 cc7 cc8 lc
  (with_reducible refine (few_any c aR cR aD cD false _ HF.out).mono ?_)
  rintro e w2 ⟨rfl, hb⟩
  replace H := H.below hb
  clear hb
  go_wp2_with fail
  go_ret
  exact ⟨rfl, H.old⟩

set_option maxHeartbeats 8000000 in
set_option maxRecDepth 100000 in
theorem casums_no (K : CalWay) (c : Ca) (aR : Option Addr) (cR : Nat) (aD : Option Addr) (cD : Nat) (n i j : Int) (w : World) (hL : FactsV w) (hCc : CalAt w c aR cR aD cD) (bi : 0 ≤ i ∧ i < 256) (bj : 0 ≤ j ∧ j < 256) (hf : decide (c.nr ≤ 12 ∧ c.nd ≤ 60) = true) (hS : c.Small) (hm : ¬ c.May) :
    Calls Tryd.prog 6 #[.agg #[.bool (c.o 0), .bool (c.o 1), .bool (c.o 2), .bool (c.o 3), .bool (c.o 4), .bool (c.o 5), .bool (c.o 6), .slice aR c.nr cR, .slice aD c.nd cD, .int .i64 n, .int .u8 i, .int .u8 j]] w fun e w' => e = .returned (.bool true) ∧ Below w.heap.size w w' := by
  have H := ((Held.start w).add (f := factsVF) hL).add (f := calF c aR cR aD cD) hCc
  clear hL hCc
  have HF := Lib.hid hf
  have HZ := Lib.hid hS
  have NM := Lib.hid hm
  clear hf hS hm
  go_enter Tryd.func6, Tryd.ntmps6
  go_wp2_with fail
  replace H := ((H.box_12 (w.heap.size) (.bool (c.o 0)) (.bool (c.o 1)) (.bool (c.o 2)) (.bool (c.o 3)) (.bool (c.o 4)) (.bool (c.o 5)) (.bool (c.o 6)) (.slice aR c.nr cR) (.slice aD c.nd cD) (.int .i64 n) (.int .u8 i) (.int .u8 j) 45 rfl).box_9 (w.heap.size + 1) (.bool (c.o 0)) (.bool (c.o 1)) (.bool (c.o 2)) (.bool (c.o 3)) (.bool (c.o 4)) (.bool (c.o 5)) (.bool (c.o 6)) (.slice aR c.nr cR) (.slice aD c.nd cD) 26 (by simp))
  (with_reducible refine (cashown_any K _ (H.factsV (List.Mem.tail _ (List.Mem.tail _ (List.Mem.tail _ (List.Mem.tail _ (List.Mem.tail _ (List.Mem.tail _ (List.Mem.tail _ (List.Mem.tail _ (List.Mem.tail _ (List.Mem.tail _ (List.Mem.tail _ (List.Mem.tail _ (List.Mem.tail _ (List.Mem.tail _ (List.Mem.tail _ (List.Mem.tail _ (List.Mem.tail _ (List.Mem.tail _ (List.Mem.tail _ (List.Mem.tail _ (List.Mem.tail _ (List.Mem.tail _ (List.Mem.tail _ (List.Mem.tail _ (List.Mem.tail _ (List.Mem.tail _ (List.Mem.tail _ (List.Mem.tail _ (List.Mem.tail _ (List.Mem.tail _ (List.Mem.tail _ (List.Mem.tail _ (List.Mem.tail _ (List.Mem.tail _ (List.Mem.tail _ (List.Mem.tail _ (List.Mem.tail _ (List.Mem.tail _ (List.Mem.tail _ (List.Mem.tail _ (List.Mem.tail _ (List.Mem.tail _ (List.Mem.tail _ (List.Mem.head _)))))))))))))))))))))))))))))))))))))))))))))).mono ?_)
  rintro e w1 ⟨rfl, hb⟩
  replace H := H.below hb
  clear hb
  have cc0 := H.cell (w.heap.size + 1) 0 (.bool (c.o 0)) (List.Mem.head _)
  have cc1 := H.cell (w.heap.size + 1) 1 (.bool (c.o 1)) (List.Mem.tail _ (List.Mem.head _))
  have cc2 := H.cell (w.heap.size + 1) 2 (.bool (c.o 2)) (List.Mem.tail _ (List.Mem.tail _ (List.Mem.head _)))
  have cc3 := H.cell (w.heap.size + 1) 3 (.bool (c.o 3)) (List.Mem.tail _ (List.Mem.tail _ (List.Mem.tail _ (List.Mem.head _))))
  have cc4 := H.cell (w.heap.size + 1) 4 (.bool (c.o 4)) (List.Mem.tail _ (List.Mem.tail _ (List.Mem.tail _ (List.Mem.tail _ (List.Mem.head _)))))
  have cc5 := H.cell (w.heap.size + 1) 5 (.bool (c.o 5)) (List.Mem.tail _ (List.Mem.tail _ (List.Mem.tail _ (List.Mem.tail _ (List.Mem.tail _ (List.Mem.head _))))))
  have cc6 := H.cell (w.heap.size + 1) 6 (.bool (c.o 6)) (List.Mem.tail _ (List.Mem.tail _ (List.Mem.tail _ (List.Mem.tail _ (List.Mem.tail _ (List.Mem.tail _ (List.Mem.head _)))))))
  have cc7 := H.cell (w.heap.size + 1) 7 (.slice aR c.nr cR) (List.Mem.tail _ (List.Mem.tail _ (List.Mem.tail _ (List.Mem.tail _ (List.Mem.tail _ (List.Mem.tail _ (List.Mem.tail _ (List.Mem.head _))))))))
  have cc8 := H.cell (w.heap.size + 1) 8 (.slice aD c.nd cD) (List.Mem.tail _ (List.Mem.tail _ (List.Mem.tail _ (List.Mem.tail _ (List.Mem.tail _ (List.Mem.tail _ (List.Mem.tail _ (List.Mem.tail _ (List.Mem.head _)))))))))
  have lc := H.lt (w.heap.size + 1) 0 (.bool (c.o 0)) (List.Mem.head _)
  go_wp2_with fail
  clear cc0 cc1 cc2 cc3 cc4 cc5 cc6 cc7 cc8 lc
  (with_reducible refine (few_any c aR cR aD cD true _ HF.out).mono ?_)
  rintro e w2 ⟨rfl, hb⟩
  replace H := H.below hb
  clear hb
  have cc0 := H.cell (w.heap.size + 1) 0 (.bool (c.o 0)) (List.Mem.head _)
  have cc1 := H.cell (w.heap.size + 1) 1 (.bool (c.o 1)) (List.Mem.tail _ (List.Mem.head _))
  have cc2 := H.cell (w.heap.size + 1) 2 (.bool (c.o 2)) (List.Mem.tail _ (List.Mem.tail _ (List.Mem.head _)))
  have cc3 := H.cell (w.heap.size + 1) 3 (.bool (c.o 3)) (List.Mem.tail _ (List.Mem.tail _ (List.Mem.tail _ (List.Mem.head _))))
  have cc4 := H.cell (w.heap.size + 1) 4 (.bool (c.o 4)) (List.Mem.tail _ (List.Mem.tail _ (List.Mem.tail _ (List.Mem.tail _ (List.Mem.head _)))))
  have cc5 := H.cell (w.heap.size + 1) 5 (.bool (c.o 5)) (List.Mem.tail _ (List.Mem.tail _ (List.Mem.tail _ (List.Mem.tail _ (List.Mem.tail _ (List.Mem.head _))))))
  have cc6 := H.cell (w.heap.size + 1) 6 (.bool (c.o 6)) (List.Mem.tail _ (List.Mem.tail _ (List.Mem.tail _ (List.Mem.tail _ (List.Mem.tail _ (List.Mem.tail _ (List.Mem.head _)))))))
  have cc7 := H.cell (w.heap.size + 1) 7 (.slice aR c.nr cR) (List.Mem.tail _ (List.Mem.tail _ (List.Mem.tail _ (List.Mem.tail _ (List.Mem.tail _ (List.Mem.tail _ (List.Mem.tail _ (List.Mem.head _))))))))
  have cc8 := H.cell (w.heap.size + 1) 8 (.slice aD c.nd cD) (List.Mem.tail _ (List.Mem.tail _ (List.Mem.tail _ (List.Mem.tail _ (List.Mem.tail _ (List.Mem.tail _ (List.Mem.tail _ (List.Mem.tail _ (List.Mem.head _)))))))))
  have lc := H.lt (w.heap.size + 1) 0 (.bool (c.o 0)) (List.Mem.head _)
  go_wp2_with fail
  clear cc0 cc1 cc2 cc3 cc4 cc5 cc6 cc7 cc8 lc
  (with_reducible refine (rcmay_any c aR cR aD cD false _ HZ.out (H.cal (List.Mem.tail _ (List.Mem.tail _ (List.Mem.tail _ (List.Mem.tail _ (List.Mem.tail _ (List.Mem.tail _ (List.Mem.tail _ (List.Mem.tail _ (List.Mem.tail _ (List.Mem.tail _ (List.Mem.tail _ (List.Mem.tail _ (List.Mem.tail _ (List.Mem.tail _ (List.Mem.tail _ (List.Mem.tail _ (List.Mem.tail _ (List.Mem.tail _ (List.Mem.tail _ (List.Mem.tail _ (List.Mem.tail _ (List.Mem.tail _ (List.Mem.tail _ (List.Mem.tail _ (List.Mem.tail _ (List.Mem.tail _ (List.Mem.tail _ (List.Mem.tail _ (List.Mem.tail _ (List.Mem.tail _ (List.Mem.tail _ (List.Mem.tail _ (List.Mem.tail _ (List.Mem.tail _ (List.Mem.tail _ (List.Mem.tail _ (List.Mem.tail _ (List.Mem.tail _ (List.Mem.tail _ (List.Mem.tail _ (List.Mem.tail _ (List.Mem.tail _ (List.Mem.head _)))))))))))))))))))))))))))))))))))))))))))) ⟨fun g => absurd g (by decide), fun g => absurd g NM.out⟩).mono ?_)
  rintro e w3 ⟨rfl, hb⟩
  replace H := H.below hb
  clear hb
  go_wp2_with fail
  go_ret
  exact ⟨rfl, H.old⟩

set_option maxHeartbeats 8000000 in
set_option maxRecDepth 100000 in
theorem casums_noday (K : CalWay) (c : Ca) (aR : Option Addr) (cR : Nat) (aD : Option Addr) (cD : Nat) (n i j : Int) (w : World) (hL : FactsV w) (hCc : CalAt w c aR cR aD cD) (bi : 0 ≤ i ∧ i < 256) (bj : 0 ≤ j ∧ j < 256) (hf : decide (c.nr ≤ 12 ∧ c.nd ≤ 60) = true) (hS : c.Small) (hM : c.May) (hd : decide (1 ≤ n ∧ n ≤ 3652059) = false) :
    Calls Tryd.prog 6 #[.agg #[.bool (c.o 0), .bool (c.o 1), .bool (c.o 2), .bool (c.o 3), .bool (c.o 4), .bool (c.o 5), .bool (c.o 6), .slice aR c.nr cR, .slice aD c.nd cD, .int .i64 n, .int .u8 i, .int .u8 j]] w fun e w' => e = .returned (.bool true) ∧ Below w.heap.size w w' := by
  have H := ((Held.start w).add (f := factsVF) hL).add (f := calF c aR cR aD cD) hCc
  clear hL hCc
  have HF := Lib.hid hf
  have HZ := Lib.hid hS
  have MM := Lib.hid hM
  have HD := Lib.hid hd
  clear hf hS hM hd
  go_enter Tryd.func6, Tryd.ntmps6
  go_wp2_with fail
  replace H := ((H.box_12 (w.heap.size) (.bool (c.o 0)) (.bool (c.o 1)) (.bool (c.o 2)) (.bool (c.o 3)) (.bool (c.o 4)) (.bool (c.o 5)) (.bool (c.o 6)) (.slice aR c.nr cR) (.slice aD c.nd cD) (.int .i64 n) (.int .u8 i) (.int .u8 j) 45 rfl).box_9 (w.heap.size + 1) (.bool (c.o 0)) (.bool (c.o 1)) (.bool (c.o 2)) (.bool (c.o 3)) (.bool (c.o 4)) (.bool (c.o 5)) (.bool (c.o 6)) (.slice aR c.nr cR) (.slice aD c.nd cD) 26 (by simp))
  (with_reducible refine (cashown_any K _ (H.factsV (List.Mem.tail _ (List.Mem.tail _ (List.Mem.tail _ (List.Mem.tail _ (List.Mem.tail _ (List.Mem.tail _ (List.Mem.tail _ (List.Mem.tail _ (List.Mem.tail _ (List.Mem.tail _ (List.Mem.tail _ (List.Mem.tail _ (List.Mem.tail _ (List.Mem.tail _ (List.Mem.tail _ (List.Mem.tail _ (List.Mem.tail _ (List.Mem.tail _ (List.Mem.tail _ (List.Mem.tail _ (List.Mem.tail _ (List.Mem.tail _ (List.Mem.tail _ (List.Mem.tail _ (List.Mem.tail _ (List.Mem.tail _ (List.Mem.tail _ (List.Mem.tail _ (List.Mem.tail _ (List.Mem.tail _ (List.Mem.tail _ (List.Mem.tail _ (List.Mem.tail _ (List.Mem.tail _ (List.Mem.tail _ (List.Mem.tail _ (List.Mem.tail _ (List.Mem.tail _ (List.Mem.tail _ (List.Mem.tail _ (List.Mem.tail _ (List.Mem.tail _ (List.Mem.tail _ (List.Mem.head _)))))))))))))))))))))))))))))))))))))))))))))).mono ?_)
  rintro e w1 ⟨rfl, hb⟩
  replace H := H.below hb
  clear hb
  have cc0 := H.cell (w.heap.size + 1) 0 (.bool (c.o 0)) (List.Mem.head _)
  have cc1 := H.cell (w.heap.size + 1) 1 (.bool (c.o 1)) (List.Mem.tail _ (List.Mem.head _))
  have cc2 := H.cell (w.heap.size + 1) 2 (.bool (c.o 2)) (List.Mem.tail _ (List.Mem.tail _ (List.Mem.head _)))
  have cc3 := H.cell (w.heap.size + 1) 3 (.bool (c.o 3)) (List.Mem.tail _ (List.Mem.tail _ (List.Mem.tail _ (List.Mem.head _))))
  have cc4 := H.cell (w.heap.size + 1) 4 (.bool (c.o 4)) (List.Mem.tail _ (List.Mem.tail _ (List.Mem.tail _ (List.Mem.tail _ (List.Mem.head _)))))
  have cc5 := H.cell (w.heap.size + 1) 5 (.bool (c.o 5)) (List.Mem.tail _ (List.Mem.tail _ (List.Mem.tail _ (List.Mem.tail _ (List.Mem.tail _ (List.Mem.head _))))))
  have cc6 := H.cell (w.heap.size + 1) 6 (.bool (c.o 6)) (List.Mem.tail _ (List.Mem.tail _ (List.Mem.tail _ (List.Mem.tail _ (List.Mem.tail _ (List.Mem.tail _ (List.Mem.head _)))))))
  have cc7 := H.cell (w.heap.size + 1) 7 (.slice aR c.nr cR) (List.Mem.tail _ (List.Mem.tail _ (List.Mem.tail _ (List.Mem.tail _ (List.Mem.tail _ (List.Mem.tail _ (List.Mem.tail _ (List.Mem.head _))))))))
  have cc8 := H.cell (w.heap.size + 1) 8 (.slice aD c.nd cD) (List.Mem.tail _ (List.Mem.tail _ (List.Mem.tail _ (List.Mem.tail _ (List.Mem.tail _ (List.Mem.tail _ (List.Mem.tail _ (List.Mem.tail _ (List.Mem.head _)))))))))
  have lc := H.lt (w.heap.size + 1) 0 (.bool (c.o 0)) (List.Mem.head _)
  go_wp2_with fail
  clear cc0 cc1 cc2 cc3 cc4 cc5 cc6 cc7 cc8 lc
  (with_reducible refine (few_any c aR cR aD cD true _ HF.out).mono ?_)
  rintro e w2 ⟨rfl, hb⟩
  replace H := H.below hb
  clear hb
  have cc0 := H.cell (w.heap.size + 1) 0 (.bool (c.o 0)) (List.Mem.head _)
  have cc1 := H.cell (w.heap.size + 1) 1 (.bool (c.o 1)) (List.Mem.tail _ (List.Mem.head _))
  have cc2 := H.cell (w.heap.size + 1) 2 (.bool (c.o 2)) (List.Mem.tail _ (List.Mem.tail _ (List.Mem.head _)))
  have cc3 := H.cell (w.heap.size + 1) 3 (.bool (c.o 3)) (List.Mem.tail _ (List.Mem.tail _ (List.Mem.tail _ (List.Mem.head _))))
  have cc4 := H.cell (w.heap.size + 1) 4 (.bool (c.o 4)) (List.Mem.tail _ (List.Mem.tail _ (List.Mem.tail _ (List.Mem.tail _ (List.Mem.head _)))))
  have cc5 := H.cell (w.heap.size + 1) 5 (.bool (c.o 5)) (List.Mem.tail _ (List.Mem.tail _ (List.Mem.tail _ (List.Mem.tail _ (List.Mem.tail _ (List.Mem.head _))))))
  have cc6 := H.cell (w.heap.size + 1) 6 (.bool (c.o 6)) (List.Mem.tail _ (List.Mem.tail _ (List.Mem.tail _ (List.Mem.tail _ (List.Mem.tail _ (List.Mem.tail _ (List.Mem.head _)))))))
  have cc7 := H.cell (w.heap.size + 1) 7 (.slice aR c.nr cR) (List.Mem.tail _ (List.Mem.tail _ (List.Mem.tail _ (List.Mem.tail _ (List.Mem.tail _ (List.Mem.tail _ (List.Mem.tail _ (List.Mem.head _))))))))
  have cc8 := H.cell (w.heap.size + 1) 8 (.slice aD c.nd cD) (List.Mem.tail _ (List.Mem.tail _ (List.Mem.tail _ (List.Mem.tail _ (List.Mem.tail _ (List.Mem.tail _ (List.Mem.tail _ (List.Mem.tail _ (List.Mem.head _)))))))))
  have lc := H.lt (w.heap.size + 1) 0 (.bool (c.o 0)) (List.Mem.head _)
  go_wp2_with fail
  clear cc0 cc1 cc2 cc3 cc4 cc5 cc6 cc7 cc8 lc
  (with_reducible refine (rcmay_any c aR cR aD cD true _ HZ.out (H.cal (List.Mem.tail _ (List.Mem.tail _ (List.Mem.tail _ (List.Mem.tail _ (List.Mem.tail _ (List.Mem.tail _ (List.Mem.tail _ (List.Mem.tail _ (List.Mem.tail _ (List.Mem.tail _ (List.Mem.tail _ (List.Mem.tail _ (List.Mem.tail _ (List.Mem.tail _ (List.Mem.tail _ (List.Mem.tail _ (List.Mem.tail _ (List.Mem.tail _ (List.Mem.tail _ (List.Mem.tail _ (List.Mem.tail _ (List.Mem.tail _ (List.Mem.tail _ (List.Mem.tail _ (List.Mem.tail _ (List.Mem.tail _ (List.Mem.tail _ (List.Mem.tail _ (List.Mem.tail _ (List.Mem.tail _ (List.Mem.tail _ (List.Mem.tail _ (List.Mem.tail _ (List.Mem.tail _ (List.Mem.tail _ (List.Mem.tail _ (List.Mem.tail _ (List.Mem.tail _ (List.Mem.tail _ (List.Mem.tail _ (List.Mem.tail _ (List.Mem.tail _ (List.Mem.head _)))))))))))))))))))))))))))))))))))))))))))) ⟨fun _ => MM.out, fun _ => rfl⟩).mono ?_)
  rintro e w3 ⟨rfl, hb⟩
  replace H := H.below hb
  clear hb
  have cc0 := H.cell (w.heap.size + 1) 0 (.bool (c.o 0)) (List.Mem.head _)
  have cc1 := H.cell (w.heap.size + 1) 1 (.bool (c.o 1)) (List.Mem.tail _ (List.Mem.head _))
  have cc2 := H.cell (w.heap.size + 1) 2 (.bool (c.o 2)) (List.Mem.tail _ (List.Mem.tail _ (List.Mem.head _)))
  have cc3 := H.cell (w.heap.size + 1) 3 (.bool (c.o 3)) (List.Mem.tail _ (List.Mem.tail _ (List.Mem.tail _ (List.Mem.head _))))
  have cc4 := H.cell (w.heap.size + 1) 4 (.bool (c.o 4)) (List.Mem.tail _ (List.Mem.tail _ (List.Mem.tail _ (List.Mem.tail _ (List.Mem.head _)))))
  have cc5 := H.cell (w.heap.size + 1) 5 (.bool (c.o 5)) (List.Mem.tail _ (List.Mem.tail _ (List.Mem.tail _ (List.Mem.tail _ (List.Mem.tail _ (List.Mem.head _))))))
  have cc6 := H.cell (w.heap.size + 1) 6 (.bool (c.o 6)) (List.Mem.tail _ (List.Mem.tail _ (List.Mem.tail _ (List.Mem.tail _ (List.Mem.tail _ (List.Mem.tail _ (List.Mem.head _)))))))
  have cc7 := H.cell (w.heap.size + 1) 7 (.slice aR c.nr cR) (List.Mem.tail _ (List.Mem.tail _ (List.Mem.tail _ (List.Mem.tail _ (List.Mem.tail _ (List.Mem.tail _ (List.Mem.tail _ (List.Mem.head _))))))))
  have cc8 := H.cell (w.heap.size + 1) 8 (.slice aD c.nd cD) (List.Mem.tail _ (List.Mem.tail _ (List.Mem.tail _ (List.Mem.tail _ (List.Mem.tail _ (List.Mem.tail _ (List.Mem.tail _ (List.Mem.tail _ (List.Mem.head _)))))))))
  have lc := H.lt (w.heap.size + 1) 0 (.bool (c.o 0)) (List.Mem.head _)
  go_wp2_with fail
  clear cc0 cc1 cc2 cc3 cc4 cc5 cc6 cc7 cc8 lc
  (with_reducible refine (Calls.same (rday13_is n false _ HD.out)).mono ?_)
  rintro e w4 ⟨rfl, hb⟩
  replace H := H.below hb
  clear hb
  go_wp2_with fail
  go_ret
  exact ⟨rfl, H.old⟩

set_option maxHeartbeats 8000000 in
set_option maxRecDepth 100000 in
theorem casums_far (K : CalWay) (c : Ca) (aR : Option Addr) (cR : Nat) (aD : Option Addr) (cD : Nat) (n i j p q : Int) (w : World) (hL : FactsV w) (hCc : CalAt w c aR cR aD cD) (bi : 0 ≤ i ∧ i < 256) (bj : 0 ≤ j ∧ j < 256) (hf : decide (c.nr ≤ 12 ∧ c.nd ≤ 60) = true) (hS : c.Small) (hM : c.May) (hd : decide (1 ≤ n ∧ n ≤ 3652059) = true) (nb : 1 ≤ n ∧ n ≤ 3652059) (hp : i % 60 = p) (hq : j % 60 = q) (pb : 0 ≤ p ∧ p < 60) (qb : 0 ≤ q ∧ q < 60) (hb : 3652059 ≤ n + p + q) :
    Calls Tryd.prog 6 #[.agg #[.bool (c.o 0), .bool (c.o 1), .bool (c.o 2), .bool (c.o 3), .bool (c.o 4), .bool (c.o 5), .bool (c.o 6), .slice aR c.nr cR, .slice aD c.nd cD, .int .i64 n, .int .u8 i, .int .u8 j]] w fun e w' => e = .returned (.bool true) ∧ Below w.heap.size w w' := by
  have H := ((Held.start w).add (f := factsVF) hL).add (f := calF c aR cR aD cD) hCc
  clear hL hCc
  have HF := Lib.hid hf
  have HZ := Lib.hid hS
  have MM := Lib.hid hM
  have HD := Lib.hid hd
  have HP := Lib.hid hp
  have HQ := Lib.hid hq
  clear hf hS hM hd hp hq
  go_enter Tryd.func6, Tryd.ntmps6
  go_wp2_with fail
  replace H := ((H.box_12 (w.heap.size) (.bool (c.o 0)) (.bool (c.o 1)) (.bool (c.o 2)) (.bool (c.o 3)) (.bool (c.o 4)) (.bool (c.o 5)) (.bool (c.o 6)) (.slice aR c.nr cR) (.slice aD c.nd cD) (.int .i64 n) (.int .u8 i) (.int .u8 j) 45 rfl).box_9 (w.heap.size + 1) (.bool (c.o 0)) (.bool (c.o 1)) (.bool (c.o 2)) (.bool (c.o 3)) (.bool (c.o 4)) (.bool (c.o 5)) (.bool (c.o 6)) (.slice aR c.nr cR) (.slice aD c.nd cD) 26 (by simp))
  (with_reducible refine (cashown_any K _ (H.factsV (List.Mem.tail _ (List.Mem.tail _ (List.Mem.tail _ (List.Mem.tail _ (List.Mem.tail _ (List.Mem.tail _ (List.Mem.tail _ (List.Mem.tail _ (List.Mem.tail _ (List.Mem.tail _ (List.Mem.tail _ (List.Mem.tail _ (List.Mem.tail _ (List.Mem.tail _ (List.Mem.tail _ (List.Mem.tail _ (List.Mem.tail _ (List.Mem.tail _ (List.Mem.tail _ (List.Mem.tail _ (List.Mem.tail _ (List.Mem.tail _ (List.Mem.tail _ (List.Mem.tail _ (List.Mem.tail _ (List.Mem.tail _ (List.Mem.tail _ (List.Mem.tail _ (List.Mem.tail _ (List.Mem.tail _ (List.Mem.tail _ (List.Mem.tail _ (List.Mem.tail _ (List.Mem.tail _ (List.Mem.tail _ (List.Mem.tail _ (List.Mem.tail _ (List.Mem.tail _ (List.Mem.tail _ (List.Mem.tail _ (List.Mem.tail _ (List.Mem.tail _ (List.Mem.tail _ (List.Mem.head _)))))))))))))))))))))))))))))))))))))))))))))).mono ?_)
  rintro e w1 ⟨rfl, hb⟩
  replace H := H.below hb
  clear hb
  have cc0 := H.cell (w.heap.size + 1) 0 (.bool (c.o 0)) (List.Mem.head _)
  have cc1 := H.cell (w.heap.size + 1) 1 (.bool (c.o 1)) (List.Mem.tail _ (List.Mem.head _))
  have cc2 := H.cell (w.heap.size + 1) 2 (.bool (c.o 2)) (List.Mem.tail _ (List.Mem.tail _ (List.Mem.head _)))
  have cc3 := H.cell (w.heap.size + 1) 3 (.bool (c.o 3)) (List.Mem.tail _ (List.Mem.tail _ (List.Mem.tail _ (List.Mem.head _))))
  have cc4 := H.cell (w.heap.size + 1) 4 (.bool (c.o 4)) (List.Mem.tail _ (List.Mem.tail _ (List.Mem.tail _ (List.Mem.tail _ (List.Mem.head _)))))
  have cc5 := H.cell (w.heap.size + 1) 5 (.bool (c.o 5)) (List.Mem.tail _ (List.Mem.tail _ (List.Mem.tail _ (List.Mem.tail _ (List.Mem.tail _ (List.Mem.head _))))))
  have cc6 := H.cell (w.heap.size + 1) 6 (.bool (c.o 6)) (List.Mem.tail _ (List.Mem.tail _ (List.Mem.tail _ (List.Mem.tail _ (List.Mem.tail _ (List.Mem.tail _ (List.Mem.head _)))))))
  have cc7 := H.cell (w.heap.size + 1) 7 (.slice aR c.nr cR) (List.Mem.tail _ (List.Mem.tail _ (List.Mem.tail _ (List.Mem.tail _ (List.Mem.tail _ (List.Mem.tail _ (List.Mem.tail _ (List.Mem.head _))))))))
  have cc8 := H.cell (w.heap.size + 1) 8 (.slice aD c.nd cD) (List.Mem.tail _ (List.Mem.tail _ (List.Mem.tail _ (List.Mem.tail _ (List.Mem.tail _ (List.Mem.tail _ (List.Mem.tail _ (List.Mem.tail _ (List.Mem.head _)))))))))
  have lc := H.lt (w.heap.size + 1) 0 (.bool (c.o 0)) (List.Mem.head _)
  go_wp2_with fail
  clear cc0 cc1 cc2 cc3 cc4 cc5 cc6 cc7 cc8 lc
  (with_reducible refine (few_any c aR cR aD cD true _ HF.out).mono ?_)
  rintro e w2 ⟨rfl, hb⟩
  replace H := H.below hb
  clear hb
  have cc0 := H.cell (w.heap.size + 1) 0 (.bool (c.o 0)) (List.Mem.head _)
  have cc1 := H.cell (w.heap.size + 1) 1 (.bool (c.o 1)) (List.Mem.tail _ (List.Mem.head _))
  have cc2 := H.cell (w.heap.size + 1) 2 (.bool (c.o 2)) (List.Mem.tail _ (List.Mem.tail _ (List.Mem.head _)))
  have cc3 := H.cell (w.heap.size + 1) 3 (.bool (c.o 3)) (List.Mem.tail _ (List.Mem.tail _ (List.Mem.tail _ (List.Mem.head _))))
  have cc4 := H.cell (w.heap.size + 1) 4 (.bool (c.o 4)) (List.Mem.tail _ (List.Mem.tail _ (List.Mem.tail _ (List.Mem.tail _ (List.Mem.head _)))))
  have cc5 := H.cell (w.heap.size + 1) 5 (.bool (c.o 5)) (List.Mem.tail _ (List.Mem.tail _ (List.Mem.tail _ (List.Mem.tail _ (List.Mem.tail _ (List.Mem.head _))))))
  have cc6 := H.cell (w.heap.size + 1) 6 (.bool (c.o 6)) (List.Mem.tail _ (List.Mem.tail _ (List.Mem.tail _ (List.Mem.tail _ (List.Mem.tail _ (List.Mem.tail _ (List.Mem.head _)))))))
  have cc7 := H.cell (w.heap.size + 1) 7 (.slice aR c.nr cR) (List.Mem.tail _ (List.Mem.tail _ (List.Mem.tail _ (List.Mem.tail _ (List.Mem.tail _ (List.Mem.tail _ (List.Mem.tail _ (List.Mem.head _))))))))
  have cc8 := H.cell (w.heap.size + 1) 8 (.slice aD c.nd cD) (List.Mem.tail _ (List.Mem.tail _ (List.Mem.tail _ (List.Mem.tail _ (List.Mem.tail _ (List.Mem.tail _ (List.Mem.tail _ (List.Mem.tail _ (List.Mem.head _)))))))))
  have lc := H.lt (w.heap.size + 1) 0 (.bool (c.o 0)) (List.Mem.head _)
  go_wp2_with fail
  clear cc0 cc1 cc2 cc3 cc4 cc5 cc6 cc7 cc8 lc
  (with_reducible refine (rcmay_any c aR cR aD cD true _ HZ.out (H.cal (List.Mem.tail _ (List.Mem.tail _ (List.Mem.tail _ (List.Mem.tail _ (List.Mem.tail _ (List.Mem.tail _ (List.Mem.tail _ (List.Mem.tail _ (List.Mem.tail _ (List.Mem.tail _ (List.Mem.tail _ (List.Mem.tail _ (List.Mem.tail _ (List.Mem.tail _ (List.Mem.tail _ (List.Mem.tail _ (List.Mem.tail _ (List.Mem.tail _ (List.Mem.tail _ (List.Mem.tail _ (List.Mem.tail _ (List.Mem.tail _ (List.Mem.tail _ (List.Mem.tail _ (List.Mem.tail _ (List.Mem.tail _ (List.Mem.tail _ (List.Mem.tail _ (List.Mem.tail _ (List.Mem.tail _ (List.Mem.tail _ (List.Mem.tail _ (List.Mem.tail _ (List.Mem.tail _ (List.Mem.tail _ (List.Mem.tail _ (List.Mem.tail _ (List.Mem.tail _ (List.Mem.tail _ (List.Mem.tail _ (List.Mem.tail _ (List.Mem.tail _ (List.Mem.head _)))))))))))))))))))))))))))))))))))))))))))) ⟨fun _ => MM.out, fun _ => rfl⟩).mono ?_)
  rintro e w3 ⟨rfl, hb⟩
  replace H := H.below hb
  clear hb
  have cc0 := H.cell (w.heap.size + 1) 0 (.bool (c.o 0)) (List.Mem.head _)
  have cc1 := H.cell (w.heap.size + 1) 1 (.bool (c.o 1)) (List.Mem.tail _ (List.Mem.head _))
  have cc2 := H.cell (w.heap.size + 1) 2 (.bool (c.o 2)) (List.Mem.tail _ (List.Mem.tail _ (List.Mem.head _)))
  have cc3 := H.cell (w.heap.size + 1) 3 (.bool (c.o 3)) (List.Mem.tail _ (List.Mem.tail _ (List.Mem.tail _ (List.Mem.head _))))
  have cc4 := H.cell (w.heap.size + 1) 4 (.bool (c.o 4)) (List.Mem.tail _ (List.Mem.tail _ (List.Mem.tail _ (List.Mem.tail _ (List.Mem.head _)))))
  have cc5 := H.cell (w.heap.size + 1) 5 (.bool (c.o 5)) (List.Mem.tail _ (List.Mem.tail _ (List.Mem.tail _ (List.Mem.tail _ (List.Mem.tail _ (List.Mem.head _))))))
  have cc6 := H.cell (w.heap.size + 1) 6 (.bool (c.o 6)) (List.Mem.tail _ (List.Mem.tail _ (List.Mem.tail _ (List.Mem.tail _ (List.Mem.tail _ (List.Mem.tail _ (List.Mem.head _)))))))
  have cc7 := H.cell (w.heap.size + 1) 7 (.slice aR c.nr cR) (List.Mem.tail _ (List.Mem.tail _ (List.Mem.tail _ (List.Mem.tail _ (List.Mem.tail _ (List.Mem.tail _ (List.Mem.tail _ (List.Mem.head _))))))))
  have cc8 := H.cell (w.heap.size + 1) 8 (.slice aD c.nd cD) (List.Mem.tail _ (List.Mem.tail _ (List.Mem.tail _ (List.Mem.tail _ (List.Mem.tail _ (List.Mem.tail _ (List.Mem.tail _ (List.Mem.tail _ (List.Mem.head _)))))))))
  have lc := H.lt (w.heap.size + 1) 0 (.bool (c.o 0)) (List.Mem.head _)
  go_wp2_with fail
  clear cc0 cc1 cc2 cc3 cc4 cc5 cc6 cc7 cc8 lc
  (with_reducible refine (Calls.same (rday13_is n true _ HD.out)).mono ?_)
  rintro e w4 ⟨rfl, hb⟩
  replace H := H.below hb
  clear hb
  have hb2 : 3652059 ≤ n + i % 60 + j % 60 := by rw [HP.out, HQ.out]; exact hb
  go_wp2_with fail
  go_ret
  exact ⟨rfl, H.old⟩

set_option maxHeartbeats 8000000 in
set_option maxRecDepth 100000 in
theorem casums_int (K : CalWay) (c : Ca) (aR : Option Addr) (cR : Nat) (aD : Option Addr) (cD : Nat) (n i j p q x y : Int) (w : World) (hL : FactsV w) (hCc : CalAt w c aR cR aD cD) (bi : 0 ≤ i ∧ i < 256) (bj : 0 ≤ j ∧ j < 256) (hf : decide (c.nr ≤ 12 ∧ c.nd ≤ 60) = true) (hS : c.Small) (hM : c.May) (hd : decide (1 ≤ n ∧ n ≤ 3652059) = true) (nb : 1 ≤ n ∧ n ≤ 3652059) (hp : i % 60 = p) (hq : j % 60 = q) (pb : 0 ≤ p ∧ p < 60) (qb : 0 ≤ q ∧ q < 60) (hb : n + p + q < 3652059) (hx : ManyIs c n (n + p) x 0) (hy : ManyIs c (n + p) (n + p + q) y 0) (hz : ManyIs c n (n + p + q) (x + y) 0) (ho : ManyIs c n (n + 1) 1 0) (hi : c.Is n) (xb : 0 ≤ x ∧ x ≤ p ∧ 0 ≤ y ∧ y ≤ 60) :
    Calls Tryd.prog 6 #[.agg #[.bool (c.o 0), .bool (c.o 1), .bool (c.o 2), .bool (c.o 3), .bool (c.o 4), .bool (c.o 5), .bool (c.o 6), .slice aR c.nr cR, .slice aD c.nd cD, .int .i64 n, .int .u8 i, .int .u8 j]] w fun e w' => e = .returned (.bool true) ∧ Below w.heap.size w w' := by
  have H := ((Held.start w).add (f := factsVF) hL).add (f := calF c aR cR aD cD) hCc
  clear hL hCc
  have HF := Lib.hid hf
  have HZ := Lib.hid hS
  have MM := Lib.hid hM
  have HD := Lib.hid hd
  have HP := Lib.hid hp
  have HQ := Lib.hid hq
  have HX := Lib.hid hx
  have HY := Lib.hid hy
  have HW := Lib.hid hz
  have HO := Lib.hid ho
  have HI := Lib.hid hi
  clear hf hS hM hd hp hq hx hy hz ho hi
  have hb2 : n + i % 60 + j % 60 < 3652059 := by rw [HP.out, HQ.out]; exact hb
  have t1 : decide (x ≤ n + p - n) = true := decide_eq_true (by omega)
  have t2 : decide (x ≥ 0) = true := decide_eq_true (by omega)
  go_enter Tryd.func6, Tryd.ntmps6
  go_wp2_with fail
  replace H := ((H.box_12 (w.heap.size) (.bool (c.o 0)) (.bool (c.o 1)) (.bool (c.o 2)) (.bool (c.o 3)) (.bool (c.o 4)) (.bool (c.o 5)) (.bool (c.o 6)) (.slice aR c.nr cR) (.slice aD c.nd cD) (.int .i64 n) (.int .u8 i) (.int .u8 j) 45 rfl).box_9 (w.heap.size + 1) (.bool (c.o 0)) (.bool (c.o 1)) (.bool (c.o 2)) (.bool (c.o 3)) (.bool (c.o 4)) (.bool (c.o 5)) (.bool (c.o 6)) (.slice aR c.nr cR) (.slice aD c.nd cD) 26 (by simp))
  (with_reducible refine (cashown_any K _ (H.factsV (List.Mem.tail _ (List.Mem.tail _ (List.Mem.tail _ (List.Mem.tail _ (List.Mem.tail _ (List.Mem.tail _ (List.Mem.tail _ (List.Mem.tail _ (List.Mem.tail _ (List.Mem.tail _ (List.Mem.tail _ (List.Mem.tail _ (List.Mem.tail _ (List.Mem.tail _ (List.Mem.tail _ (List.Mem.tail _ (List.Mem.tail _ (List.Mem.tail _ (List.Mem.tail _ (List.Mem.tail _ (List.Mem.tail _ (List.Mem.tail _ (List.Mem.tail _ (List.Mem.tail _ (List.Mem.tail _ (List.Mem.tail _ (List.Mem.tail _ (List.Mem.tail _ (List.Mem.tail _ (List.Mem.tail _ (List.Mem.tail _ (List.Mem.tail _ (List.Mem.tail _ (List.Mem.tail _ (List.Mem.tail _ (List.Mem.tail _ (List.Mem.tail _ (List.Mem.tail _ (List.Mem.tail _ (List.Mem.tail _ (List.Mem.tail _ (List.Mem.tail _ (List.Mem.tail _ (List.Mem.head _)))))))))))))))))))))))))))))))))))))))))))))).mono ?_)
  rintro e w1 ⟨rfl, hb⟩
  replace H := H.below hb
  clear hb
  have cc0 := H.cell (w.heap.size + 1) 0 (.bool (c.o 0)) (List.Mem.head _)
  have cc1 := H.cell (w.heap.size + 1) 1 (.bool (c.o 1)) (List.Mem.tail _ (List.Mem.head _))
  have cc2 := H.cell (w.heap.size + 1) 2 (.bool (c.o 2)) (List.Mem.tail _ (List.Mem.tail _ (List.Mem.head _)))
  have cc3 := H.cell (w.heap.size + 1) 3 (.bool (c.o 3)) (List.Mem.tail _ (List.Mem.tail _ (List.Mem.tail _ (List.Mem.head _))))
  have cc4 := H.cell (w.heap.size + 1) 4 (.bool (c.o 4)) (List.Mem.tail _ (List.Mem.tail _ (List.Mem.tail _ (List.Mem.tail _ (List.Mem.head _)))))
  have cc5 := H.cell (w.heap.size + 1) 5 (.bool (c.o 5)) (List.Mem.tail _ (List.Mem.tail _ (List.Mem.tail _ (List.Mem.tail _ (List.Mem.tail _ (List.Mem.head _))))))
  have cc6 := H.cell (w.heap.size + 1) 6 (.bool (c.o 6)) (List.Mem.tail _ (List.Mem.tail _ (List.Mem.tail _ (List.Mem.tail _ (List.Mem.tail _ (List.Mem.tail _ (List.Mem.head _)))))))
  have cc7 := H.cell (w.heap.size + 1) 7 (.slice aR c.nr cR) (List.Mem.tail _ (List.Mem.tail _ (List.Mem.tail _ (List.Mem.tail _ (List.Mem.tail _ (List.Mem.tail _ (List.Mem.tail _ (List.Mem.head _))))))))
  have cc8 := H.cell (w.heap.size + 1) 8 (.slice aD c.nd cD) (List.Mem.tail _ (List.Mem.tail _ (List.Mem.tail _ (List.Mem.tail _ (List.Mem.tail _ (List.Mem.tail _ (List.Mem.tail _ (List.Mem.tail _ (List.Mem.head _)))))))))
  have lc := H.lt (w.heap.size + 1) 0 (.bool (c.o 0)) (List.Mem.head _)
  go_wp2_with fail
  clear cc0 cc1 cc2 cc3 cc4 cc5 cc6 cc7 cc8 lc
  (with_reducible refine (few_any c aR cR aD cD true _ HF.out).mono ?_)
  rintro e w2 ⟨rfl, hb⟩
  replace H := H.below hb
  clear hb
  have cc0 := H.cell (w.heap.size + 1) 0 (.bool (c.o 0)) (List.Mem.head _)
  have cc1 := H.cell (w.heap.size + 1) 1 (.bool (c.o 1)) (List.Mem.tail _ (List.Mem.head _))
  have cc2 := H.cell (w.heap.size + 1) 2 (.bool (c.o 2)) (List.Mem.tail _ (List.Mem.tail _ (List.Mem.head _)))
  have cc3 := H.cell (w.heap.size + 1) 3 (.bool (c.o 3)) (List.Mem.tail _ (List.Mem.tail _ (List.Mem.tail _ (List.Mem.head _))))
  have cc4 := H.cell (w.heap.size + 1) 4 (.bool (c.o 4)) (List.Mem.tail _ (List.Mem.tail _ (List.Mem.tail _ (List.Mem.tail _ (List.Mem.head _)))))
  have cc5 := H.cell (w.heap.size + 1) 5 (.bool (c.o 5)) (List.Mem.tail _ (List.Mem.tail _ (List.Mem.tail _ (List.Mem.tail _ (List.Mem.tail _ (List.Mem.head _))))))
  have cc6 := H.cell (w.heap.size + 1) 6 (.bool (c.o 6)) (List.Mem.tail _ (List.Mem.tail _ (List.Mem.tail _ (List.Mem.tail _ (List.Mem.tail _ (List.Mem.tail _ (List.Mem.head _)))))))
  have cc7 := H.cell (w.heap.size + 1) 7 (.slice aR c.nr cR) (List.Mem.tail _ (List.Mem.tail _ (List.Mem.tail _ (List.Mem.tail _ (List.Mem.tail _ (List.Mem.tail _ (List.Mem.tail _ (List.Mem.head _))))))))
  have cc8 := H.cell (w.heap.size + 1) 8 (.slice aD c.nd cD) (List.Mem.tail _ (List.Mem.tail _ (List.Mem.tail _ (List.Mem.tail _ (List.Mem.tail _ (List.Mem.tail _ (List.Mem.tail _ (List.Mem.tail _ (List.Mem.head _)))))))))
  have lc := H.lt (w.heap.size + 1) 0 (.bool (c.o 0)) (List.Mem.head _)
  go_wp2_with fail
  clear cc0 cc1 cc2 cc3 cc4 cc5 cc6 cc7 cc8 lc
  (with_reducible refine (rcmay_any c aR cR aD cD true _ HZ.out (H.cal (List.Mem.tail _ (List.Mem.tail _ (List.Mem.tail _ (List.Mem.tail _ (List.Mem.tail _ (List.Mem.tail _ (List.Mem.tail _ (List.Mem.tail _ (List.Mem.tail _ (List.Mem.tail _ (List.Mem.tail _ (List.Mem.tail _ (List.Mem.tail _ (List.Mem.tail _ (List.Mem.tail _ (List.Mem.tail _ (List.Mem.tail _ (List.Mem.tail _ (List.Mem.tail _ (List.Mem.tail _ (List.Mem.tail _ (List.Mem.tail _ (List.Mem.tail _ (List.Mem.tail _ (List.Mem.tail _ (List.Mem.tail _ (List.Mem.tail _ (List.Mem.tail _ (List.Mem.tail _ (List.Mem.tail _ (List.Mem.tail _ (List.Mem.tail _ (List.Mem.tail _ (List.Mem.tail _ (List.Mem.tail _ (List.Mem.tail _ (List.Mem.tail _ (List.Mem.tail _ (List.Mem.tail _ (List.Mem.tail _ (List.Mem.tail _ (List.Mem.tail _ (List.Mem.head _)))))))))))))))))))))))))))))))))))))))))))) ⟨fun _ => MM.out, fun _ => rfl⟩).mono ?_)
  rintro e w3 ⟨rfl, hb⟩
  replace H := H.below hb
  clear hb
  have cc0 := H.cell (w.heap.size + 1) 0 (.bool (c.o 0)) (List.Mem.head _)
  have cc1 := H.cell (w.heap.size + 1) 1 (.bool (c.o 1)) (List.Mem.tail _ (List.Mem.head _))
  have cc2 := H.cell (w.heap.size + 1) 2 (.bool (c.o 2)) (List.Mem.tail _ (List.Mem.tail _ (List.Mem.head _)))
  have cc3 := H.cell (w.heap.size + 1) 3 (.bool (c.o 3)) (List.Mem.tail _ (List.Mem.tail _ (List.Mem.tail _ (List.Mem.head _))))
  have cc4 := H.cell (w.heap.size + 1) 4 (.bool (c.o 4)) (List.Mem.tail _ (List.Mem.tail _ (List.Mem.tail _ (List.Mem.tail _ (List.Mem.head _)))))
  have cc5 := H.cell (w.heap.size + 1) 5 (.bool (c.o 5)) (List.Mem.tail _ (List.Mem.tail _ (List.Mem.tail _ (List.Mem.tail _ (List.Mem.tail _ (List.Mem.head _))))))
  have cc6 := H.cell (w.heap.size + 1) 6 (.bool (c.o 6)) (List.Mem.tail _ (List.Mem.tail _ (List.Mem.tail _ (List.Mem.tail _ (List.Mem.tail _ (List.Mem.tail _ (List.Mem.head _)))))))
  have cc7 := H.cell (w.heap.size + 1) 7 (.slice aR c.nr cR) (List.Mem.tail _ (List.Mem.tail _ (List.Mem.tail _ (List.Mem.tail _ (List.Mem.tail _ (List.Mem.tail _ (List.Mem.tail _ (List.Mem.head _))))))))
  have cc8 := H.cell (w.heap.size + 1) 8 (.slice aD c.nd cD) (List.Mem.tail _ (List.Mem.tail _ (List.Mem.tail _ (List.Mem.tail _ (List.Mem.tail _ (List.Mem.tail _ (List.Mem.tail _ (List.Mem.tail _ (List.Mem.head _)))))))))
  have lc := H.lt (w.heap.size + 1) 0 (.bool (c.o 0)) (List.Mem.head _)
  go_wp2_with fail
  clear cc0 cc1 cc2 cc3 cc4 cc5 cc6 cc7 cc8 lc
  (with_reducible refine (Calls.same (rday13_is n true _ HD.out)).mono ?_)
  rintro e w4 ⟨rfl, hb⟩
  replace H := H.below hb
  clear hb
  have cc0 := H.cell (w.heap.size + 1) 0 (.bool (c.o 0)) (List.Mem.head _)
  have cc1 := H.cell (w.heap.size + 1) 1 (.bool (c.o 1)) (List.Mem.tail _ (List.Mem.head _))
  have cc2 := H.cell (w.heap.size + 1) 2 (.bool (c.o 2)) (List.Mem.tail _ (List.Mem.tail _ (List.Mem.head _)))
  have cc3 := H.cell (w.heap.size + 1) 3 (.bool (c.o 3)) (List.Mem.tail _ (List.Mem.tail _ (List.Mem.tail _ (List.Mem.head _))))
  have cc4 := H.cell (w.heap.size + 1) 4 (.bool (c.o 4)) (List.Mem.tail _ (List.Mem.tail _ (List.Mem.tail _ (List.Mem.tail _ (List.Mem.head _)))))
  have cc5 := H.cell (w.heap.size + 1) 5 (.bool (c.o 5)) (List.Mem.tail _ (List.Mem.tail _ (List.Mem.tail _ (List.Mem.tail _ (List.Mem.tail _ (List.Mem.head _))))))
  have cc6 := H.cell (w.heap.size + 1) 6 (.bool (c.o 6)) (List.Mem.tail _ (List.Mem.tail _ (List.Mem.tail _ (List.Mem.tail _ (List.Mem.tail _ (List.Mem.tail _ (List.Mem.head _)))))))
  have cc7 := H.cell (w.heap.size + 1) 7 (.slice aR c.nr cR) (List.Mem.tail _ (List.Mem.tail _ (List.Mem.tail _ (List.Mem.tail _ (List.Mem.tail _ (List.Mem.tail _ (List.Mem.tail _ (List.Mem.head _))))))))
  have cc8 := H.cell (w.heap.size + 1) 8 (.slice aD c.nd cD) (List.Mem.tail _ (List.Mem.tail _ (List.Mem.tail _ (List.Mem.tail _ (List.Mem.tail _ (List.Mem.tail _ (List.Mem.tail _ (List.Mem.tail _ (List.Mem.head _)))))))))
  have lc := H.lt (w.heap.size + 1) 0 (.bool (c.o 0)) (List.Mem.head _)
  go_wp2_with fail
  clear cc0 cc1 cc2 cc3 cc4 cc5 cc6 cc7 cc8 lc
  rw [HP.out]
  (with_reducible refine (K.many c aR cR aD cD n (n + p) x 0 _ (H.factsV (List.Mem.tail _ (List.Mem.tail _ (List.Mem.tail _ (List.Mem.tail _ (List.Mem.tail _ (List.Mem.tail _ (List.Mem.tail _ (List.Mem.tail _ (List.Mem.tail _ (List.Mem.tail _ (List.Mem.tail _ (List.Mem.tail _ (List.Mem.tail _ (List.Mem.tail _ (List.Mem.tail _ (List.Mem.tail _ (List.Mem.tail _ (List.Mem.tail _ (List.Mem.tail _ (List.Mem.tail _ (List.Mem.tail _ (List.Mem.tail _ (List.Mem.tail _ (List.Mem.tail _ (List.Mem.tail _ (List.Mem.tail _ (List.Mem.tail _ (List.Mem.tail _ (List.Mem.tail _ (List.Mem.tail _ (List.Mem.tail _ (List.Mem.tail _ (List.Mem.tail _ (List.Mem.tail _ (List.Mem.tail _ (List.Mem.tail _ (List.Mem.tail _ (List.Mem.tail _ (List.Mem.tail _ (List.Mem.tail _ (List.Mem.tail _ (List.Mem.tail _ (List.Mem.tail _ (List.Mem.head _))))))))))))))))))))))))))))))))))))))))))))) MM.out (H.cal (List.Mem.tail _ (List.Mem.tail _ (List.Mem.tail _ (List.Mem.tail _ (List.Mem.tail _ (List.Mem.tail _ (List.Mem.tail _ (List.Mem.tail _ (List.Mem.tail _ (List.Mem.tail _ (List.Mem.tail _ (List.Mem.tail _ (List.Mem.tail _ (List.Mem.tail _ (List.Mem.tail _ (List.Mem.tail _ (List.Mem.tail _ (List.Mem.tail _ (List.Mem.tail _ (List.Mem.tail _ (List.Mem.tail _ (List.Mem.tail _ (List.Mem.tail _ (List.Mem.tail _ (List.Mem.tail _ (List.Mem.tail _ (List.Mem.tail _ (List.Mem.tail _ (List.Mem.tail _ (List.Mem.tail _ (List.Mem.tail _ (List.Mem.tail _ (List.Mem.tail _ (List.Mem.tail _ (List.Mem.tail _ (List.Mem.tail _ (List.Mem.tail _ (List.Mem.tail _ (List.Mem.tail _ (List.Mem.tail _ (List.Mem.tail _ (List.Mem.tail _ (List.Mem.head _)))))))))))))))))))))))))))))))))))))))))))) HX.out).mono ?_)
  rintro e w5 ⟨rfl, hb⟩
  replace H := H.below hb
  clear hb
  have cc0 := H.cell (w.heap.size + 1) 0 (.bool (c.o 0)) (List.Mem.head _)
  have cc1 := H.cell (w.heap.size + 1) 1 (.bool (c.o 1)) (List.Mem.tail _ (List.Mem.head _))
  have cc2 := H.cell (w.heap.size + 1) 2 (.bool (c.o 2)) (List.Mem.tail _ (List.Mem.tail _ (List.Mem.head _)))
  have cc3 := H.cell (w.heap.size + 1) 3 (.bool (c.o 3)) (List.Mem.tail _ (List.Mem.tail _ (List.Mem.tail _ (List.Mem.head _))))
  have cc4 := H.cell (w.heap.size + 1) 4 (.bool (c.o 4)) (List.Mem.tail _ (List.Mem.tail _ (List.Mem.tail _ (List.Mem.tail _ (List.Mem.head _)))))
  have cc5 := H.cell (w.heap.size + 1) 5 (.bool (c.o 5)) (List.Mem.tail _ (List.Mem.tail _ (List.Mem.tail _ (List.Mem.tail _ (List.Mem.tail _ (List.Mem.head _))))))
  have cc6 := H.cell (w.heap.size + 1) 6 (.bool (c.o 6)) (List.Mem.tail _ (List.Mem.tail _ (List.Mem.tail _ (List.Mem.tail _ (List.Mem.tail _ (List.Mem.tail _ (List.Mem.head _)))))))
  have cc7 := H.cell (w.heap.size + 1) 7 (.slice aR c.nr cR) (List.Mem.tail _ (List.Mem.tail _ (List.Mem.tail _ (List.Mem.tail _ (List.Mem.tail _ (List.Mem.tail _ (List.Mem.tail _ (List.Mem.head _))))))))
  have cc8 := H.cell (w.heap.size + 1) 8 (.slice aD c.nd cD) (List.Mem.tail _ (List.Mem.tail _ (List.Mem.tail _ (List.Mem.tail _ (List.Mem.tail _ (List.Mem.tail _ (List.Mem.tail _ (List.Mem.tail _ (List.Mem.head _)))))))))
  have lc := H.lt (w.heap.size + 1) 0 (.bool (c.o 0)) (List.Mem.head _)
  go_wp2_with fail
  clear cc0 cc1 cc2 cc3 cc4 cc5 cc6 cc7 cc8 lc
  rw [HQ.out]
  (with_reducible refine (K.many c aR cR aD cD (n + p) (n + p + q) y 0 _ (H.factsV (List.Mem.tail _ (List.Mem.tail _ (List.Mem.tail _ (List.Mem.tail _ (List.Mem.tail _ (List.Mem.tail _ (List.Mem.tail _ (List.Mem.tail _ (List.Mem.tail _ (List.Mem.tail _ (List.Mem.tail _ (List.Mem.tail _ (List.Mem.tail _ (List.Mem.tail _ (List.Mem.tail _ (List.Mem.tail _ (List.Mem.tail _ (List.Mem.tail _ (List.Mem.tail _ (List.Mem.tail _ (List.Mem.tail _ (List.Mem.tail _ (List.Mem.tail _ (List.Mem.tail _ (List.Mem.tail _ (List.Mem.tail _ (List.Mem.tail _ (List.Mem.tail _ (List.Mem.tail _ (List.Mem.tail _ (List.Mem.tail _ (List.Mem.tail _ (List.Mem.tail _ (List.Mem.tail _ (List.Mem.tail _ (List.Mem.tail _ (List.Mem.tail _ (List.Mem.tail _ (List.Mem.tail _ (List.Mem.tail _ (List.Mem.tail _ (List.Mem.tail _ (List.Mem.tail _ (List.Mem.head _))))))))))))))))))))))))))))))))))))))))))))) MM.out (H.cal (List.Mem.tail _ (List.Mem.tail _ (List.Mem.tail _ (List.Mem.tail _ (List.Mem.tail _ (List.Mem.tail _ (List.Mem.tail _ (List.Mem.tail _ (List.Mem.tail _ (List.Mem.tail _ (List.Mem.tail _ (List.Mem.tail _ (List.Mem.tail _ (List.Mem.tail _ (List.Mem.tail _ (List.Mem.tail _ (List.Mem.tail _ (List.Mem.tail _ (List.Mem.tail _ (List.Mem.tail _ (List.Mem.tail _ (List.Mem.tail _ (List.Mem.tail _ (List.Mem.tail _ (List.Mem.tail _ (List.Mem.tail _ (List.Mem.tail _ (List.Mem.tail _ (List.Mem.tail _ (List.Mem.tail _ (List.Mem.tail _ (List.Mem.tail _ (List.Mem.tail _ (List.Mem.tail _ (List.Mem.tail _ (List.Mem.tail _ (List.Mem.tail _ (List.Mem.tail _ (List.Mem.tail _ (List.Mem.tail _ (List.Mem.tail _ (List.Mem.tail _ (List.Mem.head _)))))))))))))))))))))))))))))))))))))))))))) HY.out).mono ?_)
  rintro e w6 ⟨rfl, hb⟩
  replace H := H.below hb
  clear hb
  have cc0 := H.cell (w.heap.size + 1) 0 (.bool (c.o 0)) (List.Mem.head _)
  have cc1 := H.cell (w.heap.size + 1) 1 (.bool (c.o 1)) (List.Mem.tail _ (List.Mem.head _))
  have cc2 := H.cell (w.heap.size + 1) 2 (.bool (c.o 2)) (List.Mem.tail _ (List.Mem.tail _ (List.Mem.head _)))
  have cc3 := H.cell (w.heap.size + 1) 3 (.bool (c.o 3)) (List.Mem.tail _ (List.Mem.tail _ (List.Mem.tail _ (List.Mem.head _))))
  have cc4 := H.cell (w.heap.size + 1) 4 (.bool (c.o 4)) (List.Mem.tail _ (List.Mem.tail _ (List.Mem.tail _ (List.Mem.tail _ (List.Mem.head _)))))
  have cc5 := H.cell (w.heap.size + 1) 5 (.bool (c.o 5)) (List.Mem.tail _ (List.Mem.tail _ (List.Mem.tail _ (List.Mem.tail _ (List.Mem.tail _ (List.Mem.head _))))))
  have cc6 := H.cell (w.heap.size + 1) 6 (.bool (c.o 6)) (List.Mem.tail _ (List.Mem.tail _ (List.Mem.tail _ (List.Mem.tail _ (List.Mem.tail _ (List.Mem.tail _ (List.Mem.head _)))))))
  have cc7 := H.cell (w.heap.size + 1) 7 (.slice aR c.nr cR) (List.Mem.tail _ (List.Mem.tail _ (List.Mem.tail _ (List.Mem.tail _ (List.Mem.tail _ (List.Mem.tail _ (List.Mem.tail _ (List.Mem.head _))))))))
  have cc8 := H.cell (w.heap.size + 1) 8 (.slice aD c.nd cD) (List.Mem.tail _ (List.Mem.tail _ (List.Mem.tail _ (List.Mem.tail _ (List.Mem.tail _ (List.Mem.tail _ (List.Mem.tail _ (List.Mem.tail _ (List.Mem.head _)))))))))
  have lc := H.lt (w.heap.size + 1) 0 (.bool (c.o 0)) (List.Mem.head _)
  go_wp2_with fail
  clear cc0 cc1 cc2 cc3 cc4 cc5 cc6 cc7 cc8 lc
  (with_reducible refine (K.many c aR cR aD cD n (n + p + q) (x + y) 0 _ (H.factsV (List.Mem.tail _ (List.Mem.tail _ (List.Mem.tail _ (List.Mem.tail _ (List.Mem.tail _ (List.Mem.tail _ (List.Mem.tail _ (List.Mem.tail _ (List.Mem.tail _ (List.Mem.tail _ (List.Mem.tail _ (List.Mem.tail _ (List.Mem.tail _ (List.Mem.tail _ (List.Mem.tail _ (List.Mem.tail _ (List.Mem.tail _ (List.Mem.tail _ (List.Mem.tail _ (List.Mem.tail _ (List.Mem.tail _ (List.Mem.tail _ (List.Mem.tail _ (List.Mem.tail _ (List.Mem.tail _ (List.Mem.tail _ (List.Mem.tail _ (List.Mem.tail _ (List.Mem.tail _ (List.Mem.tail _ (List.Mem.tail _ (List.Mem.tail _ (List.Mem.tail _ (List.Mem.tail _ (List.Mem.tail _ (List.Mem.tail _ (List.Mem.tail _ (List.Mem.tail _ (List.Mem.tail _ (List.Mem.tail _ (List.Mem.tail _ (List.Mem.tail _ (List.Mem.tail _ (List.Mem.head _))))))))))))))))))))))))))))))))))))))))))))) MM.out (H.cal (List.Mem.tail _ (List.Mem.tail _ (List.Mem.tail _ (List.Mem.tail _ (List.Mem.tail _ (List.Mem.tail _ (List.Mem.tail _ (List.Mem.tail _ (List.Mem.tail _ (List.Mem.tail _ (List.Mem.tail _ (List.Mem.tail _ (List.Mem.tail _ (List.Mem.tail _ (List.Mem.tail _ (List.Mem.tail _ (List.Mem.tail _ (List.Mem.tail _ (List.Mem.tail _ (List.Mem.tail _ (List.Mem.tail _ (List.Mem.tail _ (List.Mem.tail _ (List.Mem.tail _ (List.Mem.tail _ (List.Mem.tail _ (List.Mem.tail _ (List.Mem.tail _ (List.Mem.tail _ (List.Mem.tail _ (List.Mem.tail _ (List.Mem.tail _ (List.Mem.tail _ (List.Mem.tail _ (List.Mem.tail _ (List.Mem.tail _ (List.Mem.tail _ (List.Mem.tail _ (List.Mem.tail _ (List.Mem.tail _ (List.Mem.tail _ (List.Mem.tail _ (List.Mem.head _)))))))))))))))))))))))))))))))))))))))))))) HW.out).mono ?_)
  rintro e w7 ⟨rfl, hb⟩
  replace H := H.below hb
  clear hb
  have cc0 := H.cell (w.heap.size + 1) 0 (.bool (c.o 0)) (List.Mem.head _)
  have cc1 := H.cell (w.heap.size + 1) 1 (.bool (c.o 1)) (List.Mem.tail _ (List.Mem.head _))
  have cc2 := H.cell (w.heap.size + 1) 2 (.bool (c.o 2)) (List.Mem.tail _ (List.Mem.tail _ (List.Mem.head _)))
  have cc3 := H.cell (w.heap.size + 1) 3 (.bool (c.o 3)) (List.Mem.tail _ (List.Mem.tail _ (List.Mem.tail _ (List.Mem.head _))))
  have cc4 := H.cell (w.heap.size + 1) 4 (.bool (c.o 4)) (List.Mem.tail _ (List.Mem.tail _ (List.Mem.tail _ (List.Mem.tail _ (List.Mem.head _)))))
  have cc5 := H.cell (w.heap.size + 1) 5 (.bool (c.o 5)) (List.Mem.tail _ (List.Mem.tail _ (List.Mem.tail _ (List.Mem.tail _ (List.Mem.tail _ (List.Mem.head _))))))
  have cc6 := H.cell (w.heap.size + 1) 6 (.bool (c.o 6)) (List.Mem.tail _ (List.Mem.tail _ (List.Mem.tail _ (List.Mem.tail _ (List.Mem.tail _ (List.Mem.tail _ (List.Mem.head _)))))))
  have cc7 := H.cell (w.heap.size + 1) 7 (.slice aR c.nr cR) (List.Mem.tail _ (List.Mem.tail _ (List.Mem.tail _ (List.Mem.tail _ (List.Mem.tail _ (List.Mem.tail _ (List.Mem.tail _ (List.Mem.head _))))))))
  have cc8 := H.cell (w.heap.size + 1) 8 (.slice aD c.nd cD) (List.Mem.tail _ (List.Mem.tail _ (List.Mem.tail _ (List.Mem.tail _ (List.Mem.tail _ (List.Mem.tail _ (List.Mem.tail _ (List.Mem.tail _ (List.Mem.head _)))))))))
  have lc := H.lt (w.heap.size + 1) 0 (.bool (c.o 0)) (List.Mem.head _)
  go_wp2_with fail
  clear cc0 cc1 cc2 cc3 cc4 cc5 cc6 cc7 cc8 lc
  (with_reducible refine (K.many c aR cR aD cD n (n + 1) 1 0 _ (H.factsV (List.Mem.tail _ (List.Mem.tail _ (List.Mem.tail _ (List.Mem.tail _ (List.Mem.tail _ (List.Mem.tail _ (List.Mem.tail _ (List.Mem.tail _ (List.Mem.tail _ (List.Mem.tail _ (List.Mem.tail _ (List.Mem.tail _ (List.Mem.tail _ (List.Mem.tail _ (List.Mem.tail _ (List.Mem.tail _ (List.Mem.tail _ (List.Mem.tail _ (List.Mem.tail _ (List.Mem.tail _ (List.Mem.tail _ (List.Mem.tail _ (List.Mem.tail _ (List.Mem.tail _ (List.Mem.tail _ (List.Mem.tail _ (List.Mem.tail _ (List.Mem.tail _ (List.Mem.tail _ (List.Mem.tail _ (List.Mem.tail _ (List.Mem.tail _ (List.Mem.tail _ (List.Mem.tail _ (List.Mem.tail _ (List.Mem.tail _ (List.Mem.tail _ (List.Mem.tail _ (List.Mem.tail _ (List.Mem.tail _ (List.Mem.tail _ (List.Mem.tail _ (List.Mem.tail _ (List.Mem.head _))))))))))))))))))))))))))))))))))))))))))))) MM.out (H.cal (List.Mem.tail _ (List.Mem.tail _ (List.Mem.tail _ (List.Mem.tail _ (List.Mem.tail _ (List.Mem.tail _ (List.Mem.tail _ (List.Mem.tail _ (List.Mem.tail _ (List.Mem.tail _ (List.Mem.tail _ (List.Mem.tail _ (List.Mem.tail _ (List.Mem.tail _ (List.Mem.tail _ (List.Mem.tail _ (List.Mem.tail _ (List.Mem.tail _ (List.Mem.tail _ (List.Mem.tail _ (List.Mem.tail _ (List.Mem.tail _ (List.Mem.tail _ (List.Mem.tail _ (List.Mem.tail _ (List.Mem.tail _ (List.Mem.tail _ (List.Mem.tail _ (List.Mem.tail _ (List.Mem.tail _ (List.Mem.tail _ (List.Mem.tail _ (List.Mem.tail _ (List.Mem.tail _ (List.Mem.tail _ (List.Mem.tail _ (List.Mem.tail _ (List.Mem.tail _ (List.Mem.tail _ (List.Mem.tail _ (List.Mem.tail _ (List.Mem.tail _ (List.Mem.head _)))))))))))))))))))))))))))))))))))))))))))) HO.out).mono ?_)
  rintro e w8 ⟨rfl, hb⟩
  replace H := H.below hb
  clear hb
  have cc0 := H.cell (w.heap.size + 1) 0 (.bool (c.o 0)) (List.Mem.head _)
  have cc1 := H.cell (w.heap.size + 1) 1 (.bool (c.o 1)) (List.Mem.tail _ (List.Mem.head _))
  have cc2 := H.cell (w.heap.size + 1) 2 (.bool (c.o 2)) (List.Mem.tail _ (List.Mem.tail _ (List.Mem.head _)))
  have cc3 := H.cell (w.heap.size + 1) 3 (.bool (c.o 3)) (List.Mem.tail _ (List.Mem.tail _ (List.Mem.tail _ (List.Mem.head _))))
  have cc4 := H.cell (w.heap.size + 1) 4 (.bool (c.o 4)) (List.Mem.tail _ (List.Mem.tail _ (List.Mem.tail _ (List.Mem.tail _ (List.Mem.head _)))))
  have cc5 := H.cell (w.heap.size + 1) 5 (.bool (c.o 5)) (List.Mem.tail _ (List.Mem.tail _ (List.Mem.tail _ (List.Mem.tail _ (List.Mem.tail _ (List.Mem.head _))))))
  have cc6 := H.cell (w.heap.size + 1) 6 (.bool (c.o 6)) (List.Mem.tail _ (List.Mem.tail _ (List.Mem.tail _ (List.Mem.tail _ (List.Mem.tail _ (List.Mem.tail _ (List.Mem.head _)))))))
  have cc7 := H.cell (w.heap.size + 1) 7 (.slice aR c.nr cR) (List.Mem.tail _ (List.Mem.tail _ (List.Mem.tail _ (List.Mem.tail _ (List.Mem.tail _ (List.Mem.tail _ (List.Mem.tail _ (List.Mem.head _))))))))
  have cc8 := H.cell (w.heap.size + 1) 8 (.slice aD c.nd cD) (List.Mem.tail _ (List.Mem.tail _ (List.Mem.tail _ (List.Mem.tail _ (List.Mem.tail _ (List.Mem.tail _ (List.Mem.tail _ (List.Mem.tail _ (List.Mem.head _)))))))))
  have lc := H.lt (w.heap.size + 1) 0 (.bool (c.o 0)) (List.Mem.head _)
  go_wp2_with fail
  clear cc0 cc1 cc2 cc3 cc4 cc5 cc6 cc7 cc8 lc
  (with_reducible refine (K.is c aR cR aD cD n true _ (H.factsV (List.Mem.tail _ (List.Mem.tail _ (List.Mem.tail _ (List.Mem.tail _ (List.Mem.tail _ (List.Mem.tail _ (List.Mem.tail _ (List.Mem.tail _ (List.Mem.tail _ (List.Mem.tail _ (List.Mem.tail _ (List.Mem.tail _ (List.Mem.tail _ (List.Mem.tail _ (List.Mem.tail _ (List.Mem.tail _ (List.Mem.tail _ (List.Mem.tail _ (List.Mem.tail _ (List.Mem.tail _ (List.Mem.tail _ (List.Mem.tail _ (List.Mem.tail _ (List.Mem.tail _ (List.Mem.tail _ (List.Mem.tail _ (List.Mem.tail _ (List.Mem.tail _ (List.Mem.tail _ (List.Mem.tail _ (List.Mem.tail _ (List.Mem.tail _ (List.Mem.tail _ (List.Mem.tail _ (List.Mem.tail _ (List.Mem.tail _ (List.Mem.tail _ (List.Mem.tail _ (List.Mem.tail _ (List.Mem.tail _ (List.Mem.tail _ (List.Mem.tail _ (List.Mem.tail _ (List.Mem.head _))))))))))))))))))))))))))))))))))))))))))))) MM.out (H.cal (List.Mem.tail _ (List.Mem.tail _ (List.Mem.tail _ (List.Mem.tail _ (List.Mem.tail _ (List.Mem.tail _ (List.Mem.tail _ (List.Mem.tail _ (List.Mem.tail _ (List.Mem.tail _ (List.Mem.tail _ (List.Mem.tail _ (List.Mem.tail _ (List.Mem.tail _ (List.Mem.tail _ (List.Mem.tail _ (List.Mem.tail _ (List.Mem.tail _ (List.Mem.tail _ (List.Mem.tail _ (List.Mem.tail _ (List.Mem.tail _ (List.Mem.tail _ (List.Mem.tail _ (List.Mem.tail _ (List.Mem.tail _ (List.Mem.tail _ (List.Mem.tail _ (List.Mem.tail _ (List.Mem.tail _ (List.Mem.tail _ (List.Mem.tail _ (List.Mem.tail _ (List.Mem.tail _ (List.Mem.tail _ (List.Mem.tail _ (List.Mem.tail _ (List.Mem.tail _ (List.Mem.tail _ (List.Mem.tail _ (List.Mem.tail _ (List.Mem.tail _ (List.Mem.head _)))))))))))))))))))))))))))))))))))))))))))) ⟨fun _ => HI.out, fun _ => rfl⟩).mono ?_)
  rintro e w9 ⟨rfl, hb⟩
  replace H := H.below hb
  clear hb
  have cc0 := H.cell (w.heap.size + 1) 0 (.bool (c.o 0)) (List.Mem.head _)
  have cc1 := H.cell (w.heap.size + 1) 1 (.bool (c.o 1)) (List.Mem.tail _ (List.Mem.head _))
  have cc2 := H.cell (w.heap.size + 1) 2 (.bool (c.o 2)) (List.Mem.tail _ (List.Mem.tail _ (List.Mem.head _)))
  have cc3 := H.cell (w.heap.size + 1) 3 (.bool (c.o 3)) (List.Mem.tail _ (List.Mem.tail _ (List.Mem.tail _ (List.Mem.head _))))
  have cc4 := H.cell (w.heap.size + 1) 4 (.bool (c.o 4)) (List.Mem.tail _ (List.Mem.tail _ (List.Mem.tail _ (List.Mem.tail _ (List.Mem.head _)))))
  have cc5 := H.cell (w.heap.size + 1) 5 (.bool (c.o 5)) (List.Mem.tail _ (List.Mem.tail _ (List.Mem.tail _ (List.Mem.tail _ (List.Mem.tail _ (List.Mem.head _))))))
  have cc6 := H.cell (w.heap.size + 1) 6 (.bool (c.o 6)) (List.Mem.tail _ (List.Mem.tail _ (List.Mem.tail _ (List.Mem.tail _ (List.Mem.tail _ (List.Mem.tail _ (List.Mem.head _)))))))
  have cc7 := H.cell (w.heap.size + 1) 7 (.slice aR c.nr cR) (List.Mem.tail _ (List.Mem.tail _ (List.Mem.tail _ (List.Mem.tail _ (List.Mem.tail _ (List.Mem.tail _ (List.Mem.tail _ (List.Mem.head _))))))))
  have cc8 := H.cell (w.heap.size + 1) 8 (.slice aD c.nd cD) (List.Mem.tail _ (List.Mem.tail _ (List.Mem.tail _ (List.Mem.tail _ (List.Mem.tail _ (List.Mem.tail _ (List.Mem.tail _ (List.Mem.tail _ (List.Mem.head _)))))))))
  have lc := H.lt (w.heap.size + 1) 0 (.bool (c.o 0)) (List.Mem.head _)
  go_wp2_with fail
  clear cc0 cc1 cc2 cc3 cc4 cc5 cc6 cc7 cc8 lc
  (with_reducible refine (K.is c aR cR aD cD n true _ (H.factsV (List.Mem.tail _ (List.Mem.tail _ (List.Mem.tail _ (List.Mem.tail _ (List.Mem.tail _ (List.Mem.tail _ (List.Mem.tail _ (List.Mem.tail _ (List.Mem.tail _ (List.Mem.tail _ (List.Mem.tail _ (List.Mem.tail _ (List.Mem.tail _ (List.Mem.tail _ (List.Mem.tail _ (List.Mem.tail _ (List.Mem.tail _ (List.Mem.tail _ (List.Mem.tail _ (List.Mem.tail _ (List.Mem.tail _ (List.Mem.tail _ (List.Mem.tail _ (List.Mem.tail _ (List.Mem.tail _ (List.Mem.tail _ (List.Mem.tail _ (List.Mem.tail _ (List.Mem.tail _ (List.Mem.tail _ (List.Mem.tail _ (List.Mem.tail _ (List.Mem.tail _ (List.Mem.tail _ (List.Mem.tail _ (List.Mem.tail _ (List.Mem.tail _ (List.Mem.tail _ (List.Mem.tail _ (List.Mem.tail _ (List.Mem.tail _ (List.Mem.tail _ (List.Mem.tail _ (List.Mem.head _))))))))))))))))))))))))))))))))))))))))))))) MM.out (H.cal (List.Mem.tail _ (List.Mem.tail _ (List.Mem.tail _ (List.Mem.tail _ (List.Mem.tail _ (List.Mem.tail _ (List.Mem.tail _ (List.Mem.tail _ (List.Mem.tail _ (List.Mem.tail _ (List.Mem.tail _ (List.Mem.tail _ (List.Mem.tail _ (List.Mem.tail _ (List.Mem.tail _ (List.Mem.tail _ (List.Mem.tail _ (List.Mem.tail _ (List.Mem.tail _ (List.Mem.tail _ (List.Mem.tail _ (List.Mem.tail _ (List.Mem.tail _ (List.Mem.tail _ (List.Mem.tail _ (List.Mem.tail _ (List.Mem.tail _ (List.Mem.tail _ (List.Mem.tail _ (List.Mem.tail _ (List.Mem.tail _ (List.Mem.tail _ (List.Mem.tail _ (List.Mem.tail _ (List.Mem.tail _ (List.Mem.tail _ (List.Mem.tail _ (List.Mem.tail _ (List.Mem.tail _ (List.Mem.tail _ (List.Mem.tail _ (List.Mem.tail _ (List.Mem.head _)))))))))))))))))))))))))))))))))))))))))))) ⟨fun _ => HI.out, fun _ => rfl⟩).mono ?_)
  rintro e w10 ⟨rfl, hb⟩
  replace H := H.below hb
  clear hb
  have cc0 := H.cell (w.heap.size + 1) 0 (.bool (c.o 0)) (List.Mem.head _)
  have cc1 := H.cell (w.heap.size + 1) 1 (.bool (c.o 1)) (List.Mem.tail _ (List.Mem.head _))
  have cc2 := H.cell (w.heap.size + 1) 2 (.bool (c.o 2)) (List.Mem.tail _ (List.Mem.tail _ (List.Mem.head _)))
  have cc3 := H.cell (w.heap.size + 1) 3 (.bool (c.o 3)) (List.Mem.tail _ (List.Mem.tail _ (List.Mem.tail _ (List.Mem.head _))))
  have cc4 := H.cell (w.heap.size + 1) 4 (.bool (c.o 4)) (List.Mem.tail _ (List.Mem.tail _ (List.Mem.tail _ (List.Mem.tail _ (List.Mem.head _)))))
  have cc5 := H.cell (w.heap.size + 1) 5 (.bool (c.o 5)) (List.Mem.tail _ (List.Mem.tail _ (List.Mem.tail _ (List.Mem.tail _ (List.Mem.tail _ (List.Mem.head _))))))
  have cc6 := H.cell (w.heap.size + 1) 6 (.bool (c.o 6)) (List.Mem.tail _ (List.Mem.tail _ (List.Mem.tail _ (List.Mem.tail _ (List.Mem.tail _ (List.Mem.tail _ (List.Mem.head _)))))))
  have cc7 := H.cell (w.heap.size + 1) 7 (.slice aR c.nr cR) (List.Mem.tail _ (List.Mem.tail _ (List.Mem.tail _ (List.Mem.tail _ (List.Mem.tail _ (List.Mem.tail _ (List.Mem.tail _ (List.Mem.head _))))))))
  have cc8 := H.cell (w.heap.size + 1) 8 (.slice aD c.nd cD) (List.Mem.tail _ (List.Mem.tail _ (List.Mem.tail _ (List.Mem.tail _ (List.Mem.tail _ (List.Mem.tail _ (List.Mem.tail _ (List.Mem.tail _ (List.Mem.head _)))))))))
  have lc := H.lt (w.heap.size + 1) 0 (.bool (c.o 0)) (List.Mem.head _)
  go_wp2_with fail
  clear cc0 cc1 cc2 cc3 cc4 cc5 cc6 cc7 cc8 lc
  go_ret
  exact ⟨rfl, H.old⟩

set_option maxHeartbeats 8000000 in
set_option maxRecDepth 100000 in
theorem casums_inf (K : CalWay) (c : Ca) (aR : Option Addr) (cR : Nat) (aD : Option Addr) (cD : Nat) (n i j p q x y : Int) (w : World) (hL : FactsV w) (hCc : CalAt w c aR cR aD cD) (bi : 0 ≤ i ∧ i < 256) (bj : 0 ≤ j ∧ j < 256) (hf : decide (c.nr ≤ 12 ∧ c.nd ≤ 60) = true) (hS : c.Small) (hM : c.May) (hd : decide (1 ≤ n ∧ n ≤ 3652059) = true) (nb : 1 ≤ n ∧ n ≤ 3652059) (hp : i % 60 = p) (hq : j % 60 = q) (pb : 0 ≤ p ∧ p < 60) (qb : 0 ≤ q ∧ q < 60) (hb : n + p + q < 3652059) (hx : ManyIs c n (n + p) x 0) (hy : ManyIs c (n + p) (n + p + q) y 0) (hz : ManyIs c n (n + p + q) (x + y) 0) (ho : ManyIs c n (n + 1) 0 0) (hi : ¬ c.Is n) (xb : 0 ≤ x ∧ x ≤ p ∧ 0 ≤ y ∧ y ≤ 60) :
    Calls Tryd.prog 6 #[.agg #[.bool (c.o 0), .bool (c.o 1), .bool (c.o 2), .bool (c.o 3), .bool (c.o 4), .bool (c.o 5), .bool (c.o 6), .slice aR c.nr cR, .slice aD c.nd cD, .int .i64 n, .int .u8 i, .int .u8 j]] w fun e w' => e = .returned (.bool true) ∧ Below w.heap.size w w' := by
  have H := ((Held.start w).add (f := factsVF) hL).add (f := calF c aR cR aD cD) hCc
  clear hL hCc
  have HF := Lib.hid hf
  have HZ := Lib.hid hS
  have MM := Lib.hid hM
  have HD := Lib.hid hd
  have HP := Lib.hid hp
  have HQ := Lib.hid hq
  have HX := Lib.hid hx
  have HY := Lib.hid hy
  have HW := Lib.hid hz
  have HO := Lib.hid ho
  have HI := Lib.hid hi
  clear hf hS hM hd hp hq hx hy hz ho hi
  have hb2 : n + i % 60 + j % 60 < 3652059 := by rw [HP.out, HQ.out]; exact hb
  have t1 : decide (x ≤ n + p - n) = true := decide_eq_true (by omega)
  have t2 : decide (x ≥ 0) = true := decide_eq_true (by omega)
  go_enter Tryd.func6, Tryd.ntmps6
  go_wp2_with fail
  replace H := ((H.box_12 (w.heap.size) (.bool (c.o 0)) (.bool (c.o 1)) (.bool (c.o 2)) (.bool (c.o 3)) (.bool (c.o 4)) (.bool (c.o 5)) (.bool (c.o 6)) (.slice aR c.nr cR) (.slice aD c.nd cD) (.int .i64 n) (.int .u8 i) (.int .u8 j) 45 rfl).box_9 (w.heap.size + 1) (.bool (c.o 0)) (.bool (c.o 1)) (.bool (c.o 2)) (.bool (c.o 3)) (.bool (c.o 4)) (.bool (c.o 5)) (.bool (c.o 6)) (.slice aR c.nr cR) (.slice aD c.nd cD) 26 (by simp))
  (with_reducible refine (cashown_any K _ (H.factsV (List.Mem.tail _ (List.Mem.tail _ (List.Mem.tail _ (List.Mem.tail _ (List.Mem.tail _ (List.Mem.tail _ (List.Mem.tail _ (List.Mem.tail _ (List.Mem.tail _ (List.Mem.tail _ (List.Mem.tail _ (List.Mem.tail _ (List.Mem.tail _ (List.Mem.tail _ (List.Mem.tail _ (List.Mem.tail _ (List.Mem.tail _ (List.Mem.tail _ (List.Mem.tail _ (List.Mem.tail _ (List.Mem.tail _ (List.Mem.tail _ (List.Mem.tail _ (List.Mem.tail _ (List.Mem.tail _ (List.Mem.tail _ (List.Mem.tail _ (List.Mem.tail _ (List.Mem.tail _ (List.Mem.tail _ (List.Mem.tail _ (List.Mem.tail _ (List.Mem.tail _ (List.Mem.tail _ (List.Mem.tail _ (List.Mem.tail _ (List.Mem.tail _ (List.Mem.tail _ (List.Mem.tail _ (List.Mem.tail _ (List.Mem.tail _ (List.Mem.tail _ (List.Mem.tail _ (List.Mem.head _)))))))))))))))))))))))))))))))))))))))))))))).mono ?_)
  rintro e w1 ⟨rfl, hb⟩
  replace H := H.below hb
  clear hb
  have cc0 := H.cell (w.heap.size + 1) 0 (.bool (c.o 0)) (List.Mem.head _)
  have cc1 := H.cell (w.heap.size + 1) 1 (.bool (c.o 1)) (List.Mem.tail _ (List.Mem.head _))
  have cc2 := H.cell (w.heap.size + 1) 2 (.bool (c.o 2)) (List.Mem.tail _ (List.Mem.tail _ (List.Mem.head _)))
  have cc3 := H.cell (w.heap.size + 1) 3 (.bool (c.o 3)) (List.Mem.tail _ (List.Mem.tail _ (List.Mem.tail _ (List.Mem.head _))))
  have cc4 := H.cell (w.heap.size + 1) 4 (.bool (c.o 4)) (List.Mem.tail _ (List.Mem.tail _ (List.Mem.tail _ (List.Mem.tail _ (List.Mem.head _)))))
  have cc5 := H.cell (w.heap.size + 1) 5 (.bool (c.o 5)) (List.Mem.tail _ (List.Mem.tail _ (List.Mem.tail _ (List.Mem.tail _ (List.Mem.tail _ (List.Mem.head _))))))
  have cc6 := H.cell (w.heap.size + 1) 6 (.bool (c.o 6)) (List.Mem.tail _ (List.Mem.tail _ (List.Mem.tail _ (List.Mem.tail _ (List.Mem.tail _ (List.Mem.tail _ (List.Mem.head _)))))))
  have cc7 := H.cell (w.heap.size + 1) 7 (.slice aR c.nr cR) (List.Mem.tail _ (List.Mem.tail _ (List.Mem.tail _ (List.Mem.tail _ (List.Mem.tail _ (List.Mem.tail _ (List.Mem.tail _ (List.Mem.head _))))))))
  have cc8 := H.cell (w.heap.size + 1) 8 (.slice aD c.nd cD) (List.Mem.tail _ (List.Mem.tail _ (List.Mem.tail _ (List.Mem.tail _ (List.Mem.tail _ (List.Mem.tail _ (List.Mem.tail _ (List.Mem.tail _ (List.Mem.head _)))))))))
  have lc := H.lt (w.heap.size + 1) 0 (.bool (c.o 0)) (List.Mem.head _)
  go_wp2_with fail
  clear cc0 cc1 cc2 cc3 cc4 cc5 cc6 cc7 cc8 lc
  (with_reducible refine (few_any c aR cR aD cD true _ HF.out).mono ?_)
  rintro e w2 ⟨rfl, hb⟩
  replace H := H.below hb
  clear hb
  have cc0 := H.cell (w.heap.size + 1) 0 (.bool (c.o 0)) (List.Mem.head _)
  have cc1 := H.cell (w.heap.size + 1) 1 (.bool (c.o 1)) (List.Mem.tail _ (List.Mem.head _))
  have cc2 := H.cell (w.heap.size + 1) 2 (.bool (c.o 2)) (List.Mem.tail _ (List.Mem.tail _ (List.Mem.head _)))
  have cc3 := H.cell (w.heap.size + 1) 3 (.bool (c.o 3)) (List.Mem.tail _ (List.Mem.tail _ (List.Mem.tail _ (List.Mem.head _))))
  have cc4 := H.cell (w.heap.size + 1) 4 (.bool (c.o 4)) (List.Mem.tail _ (List.Mem.tail _ (List.Mem.tail _ (List.Mem.tail _ (List.Mem.head _)))))
  have cc5 := H.cell (w.heap.size + 1) 5 (.bool (c.o 5)) (List.Mem.tail _ (List.Mem.tail _ (List.Mem.tail _ (List.Mem.tail _ (List.Mem.tail _ (List.Mem.head _))))))
  have cc6 := H.cell (w.heap.size + 1) 6 (.bool (c.o 6)) (List.Mem.tail _ (List.Mem.tail _ (List.Mem.tail _ (List.Mem.tail _ (List.Mem.tail _ (List.Mem.tail _ (List.Mem.head _)))))))
  have cc7 := H.cell (w.heap.size + 1) 7 (.slice aR c.nr cR) (List.Mem.tail _ (List.Mem.tail _ (List.Mem.tail _ (List.Mem.tail _ (List.Mem.tail _ (List.Mem.tail _ (List.Mem.tail _ (List.Mem.head _))))))))
  have cc8 := H.cell (w.heap.size + 1) 8 (.slice aD c.nd cD) (List.Mem.tail _ (List.Mem.tail _ (List.Mem.tail _ (List.Mem.tail _ (List.Mem.tail _ (List.Mem.tail _ (List.Mem.tail _ (List.Mem.tail _ (List.Mem.head _)))))))))
  have lc := H.lt (w.heap.size + 1) 0 (.bool (c.o 0)) (List.Mem.head _)
  go_wp2_with fail
  clear cc0 cc1 cc2 cc3 cc4 cc5 cc6 cc7 cc8 lc
  (with_reducible refine (rcmay_any c aR cR aD cD true _ HZ.out (H.cal (List.Mem.tail _ (List.Mem.tail _ (List.Mem.tail _ (List.Mem.tail _ (List.Mem.tail _ (List.Mem.tail _ (List.Mem.tail _ (List.Mem.tail _ (List.Mem.tail _ (List.Mem.tail _ (List.Mem.tail _ (List.Mem.tail _ (List.Mem.tail _ (List.Mem.tail _ (List.Mem.tail _ (List.Mem.tail _ (List.Mem.tail _ (List.Mem.tail _ (List.Mem.tail _ (List.Mem.tail _ (List.Mem.tail _ (List.Mem.tail _ (List.Mem.tail _ (List.Mem.tail _ (List.Mem.tail _ (List.Mem.tail _ (List.Mem.tail _ (List.Mem.tail _ (List.Mem.tail _ (List.Mem.tail _ (List.Mem.tail _ (List.Mem.tail _ (List.Mem.tail _ (List.Mem.tail _ (List.Mem.tail _ (List.Mem.tail _ (List.Mem.tail _ (List.Mem.tail _ (List.Mem.tail _ (List.Mem.tail _ (List.Mem.tail _ (List.Mem.tail _ (List.Mem.head _)))))))))))))))))))))))))))))))))))))))))))) ⟨fun _ => MM.out, fun _ => rfl⟩).mono ?_)
  rintro e w3 ⟨rfl, hb⟩
  replace H := H.below hb
  clear hb
  have cc0 := H.cell (w.heap.size + 1) 0 (.bool (c.o 0)) (List.Mem.head _)
  have cc1 := H.cell (w.heap.size + 1) 1 (.bool (c.o 1)) (List.Mem.tail _ (List.Mem.head _))
  have cc2 := H.cell (w.heap.size + 1) 2 (.bool (c.o 2)) (List.Mem.tail _ (List.Mem.tail _ (List.Mem.head _)))
  have cc3 := H.cell (w.heap.size + 1) 3 (.bool (c.o 3)) (List.Mem.tail _ (List.Mem.tail _ (List.Mem.tail _ (List.Mem.head _))))
  have cc4 := H.cell (w.heap.size + 1) 4 (.bool (c.o 4)) (List.Mem.tail _ (List.Mem.tail _ (List.Mem.tail _ (List.Mem.tail _ (List.Mem.head _)))))
  have cc5 := H.cell (w.heap.size + 1) 5 (.bool (c.o 5)) (List.Mem.tail _ (List.Mem.tail _ (List.Mem.tail _ (List.Mem.tail _ (List.Mem.tail _ (List.Mem.head _))))))
  have cc6 := H.cell (w.heap.size + 1) 6 (.bool (c.o 6)) (List.Mem.tail _ (List.Mem.tail _ (List.Mem.tail _ (List.Mem.tail _ (List.Mem.tail _ (List.Mem.tail _ (List.Mem.head _)))))))
  have cc7 := H.cell (w.heap.size + 1) 7 (.slice aR c.nr cR) (List.Mem.tail _ (List.Mem.tail _ (List.Mem.tail _ (List.Mem.tail _ (List.Mem.tail _ (List.Mem.tail _ (List.Mem.tail _ (List.Mem.head _))))))))
  have cc8 := H.cell (w.heap.size + 1) 8 (.slice aD c.nd cD) (List.Mem.tail _ (List.Mem.tail _ (List.Mem.tail _ (List.Mem.tail _ (List.Mem.tail _ (List.Mem.tail _ (List.Mem.tail _ (List.Mem.tail _ (List.Mem.head _)))))))))
  have lc := H.lt (w.heap.size + 1) 0 (.bool (c.o 0)) (List.Mem.head _)
  go_wp2_with fail
  clear cc0 cc1 cc2 cc3 cc4 cc5 cc6 cc7 cc8 lc
  (with_reducible refine (Calls.same (rday13_is n true _ HD.out)).mono ?_)
  rintro e w4 ⟨rfl, hb⟩
  replace H := H.below hb
  clear hb
  have cc0 := H.cell (w.heap.size + 1) 0 (.bool (c.o 0)) (List.Mem.head _)
  have cc1 := H.cell (w.heap.size + 1) 1 (.bool (c.o 1)) (List.Mem.tail _ (List.Mem.head _))
  have cc2 := H.cell (w.heap.size + 1) 2 (.bool (c.o 2)) (List.Mem.tail _ (List.Mem.tail _ (List.Mem.head _)))
  have cc3 := H.cell (w.heap.size + 1) 3 (.bool (c.o 3)) (List.Mem.tail _ (List.Mem.tail _ (List.Mem.tail _ (List.Mem.head _))))
  have cc4 := H.cell (w.heap.size + 1) 4 (.bool (c.o 4)) (List.Mem.tail _ (List.Mem.tail _ (List.Mem.tail _ (List.Mem.tail _ (List.Mem.head _)))))
  have cc5 := H.cell (w.heap.size + 1) 5 (.bool (c.o 5)) (List.Mem.tail _ (List.Mem.tail _ (List.Mem.tail _ (List.Mem.tail _ (List.Mem.tail _ (List.Mem.head _))))))
  have cc6 := H.cell (w.heap.size + 1) 6 (.bool (c.o 6)) (List.Mem.tail _ (List.Mem.tail _ (List.Mem.tail _ (List.Mem.tail _ (List.Mem.tail _ (List.Mem.tail _ (List.Mem.head _)))))))
  have cc7 := H.cell (w.heap.size + 1) 7 (.slice aR c.nr cR) (List.Mem.tail _ (List.Mem.tail _ (List.Mem.tail _ (List.Mem.tail _ (List.Mem.tail _ (List.Mem.tail _ (List.Mem.tail _ (List.Mem.head _))))))))
  have cc8 := H.cell (w.heap.size + 1) 8 (.slice aD c.nd cD) (List.Mem.tail _ (List.Mem.tail _ (List.Mem.tail _ (List.Mem.tail _ (List.Mem.tail _ (List.Mem.tail _ (List.Mem.tail _ (List.Mem.tail _ (List.Mem.head _)))))))))
  have lc := H.lt (w.heap.size + 1) 0 (.bool (c.o 0)) (List.Mem.head _)
  go_wp2_with fail
  clear cc0 cc1 cc2 cc3 cc4 cc5 cc6 cc7 cc8 lc
  rw [HP.out]
  (with_reducible refine (K.many c aR cR aD cD n (n + p) x 0 _ (H.factsV (List.Mem.tail _ (List.Mem.tail _ (List.Mem.tail _ (List.Mem.tail _ (List.Mem.tail _ (List.Mem.tail _ (List.Mem.tail _ (List.Mem.tail _ (List.Mem.tail _ (List.Mem.tail _ (List.Mem.tail _ (List.Mem.tail _ (List.Mem.tail _ (List.Mem.tail _ (List.Mem.tail _ (List.Mem.tail _ (List.Mem.tail _ (List.Mem.tail _ (List.Mem.tail _ (List.Mem.tail _ (List.Mem.tail _ (List.Mem.tail _ (List.Mem.tail _ (List.Mem.tail _ (List.Mem.tail _ (List.Mem.tail _ (List.Mem.tail _ (List.Mem.tail _ (List.Mem.tail _ (List.Mem.tail _ (List.Mem.tail _ (List.Mem.tail _ (List.Mem.tail _ (List.Mem.tail _ (List.Mem.tail _ (List.Mem.tail _ (List.Mem.tail _ (List.Mem.tail _ (List.Mem.tail _ (List.Mem.tail _ (List.Mem.tail _ (List.Mem.tail _ (List.Mem.tail _ (List.Mem.head _))))))))))))))))))))))))))))))))))))))))))))) MM.out (H.cal (List.Mem.tail _ (List.Mem.tail _ (List.Mem.tail _ (List.Mem.tail _ (List.Mem.tail _ (List.Mem.tail _ (List.Mem.tail _ (List.Mem.tail _ (List.Mem.tail _ (List.Mem.tail _ (List.Mem.tail _ (List.Mem.tail _ (List.Mem.tail _ (List.Mem.tail _ (List.Mem.tail _ (List.Mem.tail _ (List.Mem.tail _ (List.Mem.tail _ (List.Mem.tail _ (List.Mem.tail _ (List.Mem.tail _ (List.Mem.tail _ (List.Mem.tail _ (List.Mem.tail _ (List.Mem.tail _ (List.Mem.tail _ (List.Mem.tail _ (List.Mem.tail _ (List.Mem.tail _ (List.Mem.tail _ (List.Mem.tail _ (List.Mem.tail _ (List.Mem.tail _ (List.Mem.tail _ (List.Mem.tail _ (List.Mem.tail _ (List.Mem.tail _ (List.Mem.tail _ (List.Mem.tail _ (List.Mem.tail _ (List.Mem.tail _ (List.Mem.tail _ (List.Mem.head _)))))))))))))))))))))))))))))))))))))))))))) HX.out).mono ?_)
  rintro e w5 ⟨rfl, hb⟩
  replace H := H.below hb
  clear hb
  have cc0 := H.cell (w.heap.size + 1) 0 (.bool (c.o 0)) (List.Mem.head _)
  have cc1 := H.cell (w.heap.size + 1) 1 (.bool (c.o 1)) (List.Mem.tail _ (List.Mem.head _))
  have cc2 := H.cell (w.heap.size + 1) 2 (.bool (c.o 2)) (List.Mem.tail _ (List.Mem.tail _ (List.Mem.head _)))
  have cc3 := H.cell (w.heap.size + 1) 3 (.bool (c.o 3)) (List.Mem.tail _ (List.Mem.tail _ (List.Mem.tail _ (List.Mem.head _))))
  have cc4 := H.cell (w.heap.size + 1) 4 (.bool (c.o 4)) (List.Mem.tail _ (List.Mem.tail _ (List.Mem.tail _ (List.Mem.tail _ (List.Mem.head _)))))
  have cc5 := H.cell (w.heap.size + 1) 5 (.bool (c.o 5)) (List.Mem.tail _ (List.Mem.tail _ (List.Mem.tail _ (List.Mem.tail _ (List.Mem.tail _ (List.Mem.head _))))))
  have cc6 := H.cell (w.heap.size + 1) 6 (.bool (c.o 6)) (List.Mem.tail _ (List.Mem.tail _ (List.Mem.tail _ (List.Mem.tail _ (List.Mem.tail _ (List.Mem.tail _ (List.Mem.head _)))))))
  have cc7 := H.cell (w.heap.size + 1) 7 (.slice aR c.nr cR) (List.Mem.tail _ (List.Mem.tail _ (List.Mem.tail _ (List.Mem.tail _ (List.Mem.tail _ (List.Mem.tail _ (List.Mem.tail _ (List.Mem.head _))))))))
  have cc8 := H.cell (w.heap.size + 1) 8 (.slice aD c.nd cD) (List.Mem.tail _ (List.Mem.tail _ (List.Mem.tail _ (List.Mem.tail _ (List.Mem.tail _ (List.Mem.tail _ (List.Mem.tail _ (List.Mem.tail _ (List.Mem.head _)))))))))
  have lc := H.lt (w.heap.size + 1) 0 (.bool (c.o 0)) (List.Mem.head _)
  go_wp2_with fail
  clear cc0 cc1 cc2 cc3 cc4 cc5 cc6 cc7 cc8 lc
  rw [HQ.out]
  (with_reducible refine (K.many c aR cR aD cD (n + p) (n + p + q) y 0 _ (H.factsV (List.Mem.tail _ (List.Mem.tail _ (List.Mem.tail _ (List.Mem.tail _ (List.Mem.tail _ (List.Mem.tail _ (List.Mem.tail _ (List.Mem.tail _ (List.Mem.tail _ (List.Mem.tail _ (List.Mem.tail _ (List.Mem.tail _ (List.Mem.tail _ (List.Mem.tail _ (List.Mem.tail _ (List.Mem.tail _ (List.Mem.tail _ (List.Mem.tail _ (List.Mem.tail _ (List.Mem.tail _ (List.Mem.tail _ (List.Mem.tail _ (List.Mem.tail _ (List.Mem.tail _ (List.Mem.tail _ (List.Mem.tail _ (List.Mem.tail _ (List.Mem.tail _ (List.Mem.tail _ (List.Mem.tail _ (List.Mem.tail _ (List.Mem.tail _ (List.Mem.tail _ (List.Mem.tail _ (List.Mem.tail _ (List.Mem.tail _ (List.Mem.tail _ (List.Mem.tail _ (List.Mem.tail _ (List.Mem.tail _ (List.Mem.tail _ (List.Mem.tail _ (List.Mem.tail _ (List.Mem.head _))))))))))))))))))))))))))))))))))))))))))))) MM.out (H.cal (List.Mem.tail _ (List.Mem.tail _ (List.Mem.tail _ (List.Mem.tail _ (List.Mem.tail _ (List.Mem.tail _ (List.Mem.tail _ (List.Mem.tail _ (List.Mem.tail _ (List.Mem.tail _ (List.Mem.tail _ (List.Mem.tail _ (List.Mem.tail _ (List.Mem.tail _ (List.Mem.tail _ (List.Mem.tail _ (List.Mem.tail _ (List.Mem.tail _ (List.Mem.tail _ (List.Mem.tail _ (List.Mem.tail _ (List.Mem.tail _ (List.Mem.tail _ (List.Mem.tail _ (List.Mem.tail _ (List.Mem.tail _ (List.Mem.tail _ (List.Mem.tail _ (List.Mem.tail _ (List.Mem.tail _ (List.Mem.tail _ (List.Mem.tail _ (List.Mem.tail _ (List.Mem.tail _ (List.Mem.tail _ (List.Mem.tail _ (List.Mem.tail _ (List.Mem.tail _ (List.Mem.tail _ (List.Mem.tail _ (List.Mem.tail _ (List.Mem.tail _ (List.Mem.head _)))))))))))))))))))))))))))))))))))))))))))) HY.out).mono ?_)
  rintro e w6 ⟨rfl, hb⟩
  replace H := H.below hb
  clear hb
  have cc0 := H.cell (w.heap.size + 1) 0 (.bool (c.o 0)) (List.Mem.head _)
  have cc1 := H.cell (w.heap.size + 1) 1 (.bool (c.o 1)) (List.Mem.tail _ (List.Mem.head _))
  have cc2 := H.cell (w.heap.size + 1) 2 (.bool (c.o 2)) (List.Mem.tail _ (List.Mem.tail _ (List.Mem.head _)))
  have cc3 := H.cell (w.heap.size + 1) 3 (.bool (c.o 3)) (List.Mem.tail _ (List.Mem.tail _ (List.Mem.tail _ (List.Mem.head _))))
  have cc4 := H.cell (w.heap.size + 1) 4 (.bool (c.o 4)) (List.Mem.tail _ (List.Mem.tail _ (List.Mem.tail _ (List.Mem.tail _ (List.Mem.head _)))))
  have cc5 := H.cell (w.heap.size + 1) 5 (.bool (c.o 5)) (List.Mem.tail _ (List.Mem.tail _ (List.Mem.tail _ (List.Mem.tail _ (List.Mem.tail _ (List.Mem.head _))))))
  have cc6 := H.cell (w.heap.size + 1) 6 (.bool (c.o 6)) (List.Mem.tail _ (List.Mem.tail _ (List.Mem.tail _ (List.Mem.tail _ (List.Mem.tail _ (List.Mem.tail _ (List.Mem.head _)))))))
  have cc7 := H.cell (w.heap.size + 1) 7 (.slice aR c.nr cR) (List.Mem.tail _ (List.Mem.tail _ (List.Mem.tail _ (List.Mem.tail _ (List.Mem.tail _ (List.Mem.tail _ (List.Mem.tail _ (List.Mem.head _))))))))
  have cc8 := H.cell (w.heap.size + 1) 8 (.slice aD c.nd cD) (List.Mem.tail _ (List.Mem.tail _ (List.Mem.tail _ (List.Mem.tail _ (List.Mem.tail _ (List.Mem.tail _ (List.Mem.tail _ (List.Mem.tail _ (List.Mem.head _)))))))))
  have lc := H.lt (w.heap.size + 1) 0 (.bool (c.o 0)) (List.Mem.head _)
  go_wp2_with fail
  clear cc0 cc1 cc2 cc3 cc4 cc5 cc6 cc7 cc8 lc
  (with_reducible refine (K.many c aR cR aD cD n (n + p + q) (x + y) 0 _ (H.factsV (List.Mem.tail _ (List.Mem.tail _ (List.Mem.tail _ (List.Mem.tail _ (List.Mem.tail _ (List.Mem.tail _ (List.Mem.tail _ (List.Mem.tail _ (List.Mem.tail _ (List.Mem.tail _ (List.Mem.tail _ (List.Mem.tail _ (List.Mem.tail _ (List.Mem.tail _ (List.Mem.tail _ (List.Mem.tail _ (List.Mem.tail _ (List.Mem.tail _ (List.Mem.tail _ (List.Mem.tail _ (List.Mem.tail _ (List.Mem.tail _ (List.Mem.tail _ (List.Mem.tail _ (List.Mem.tail _ (List.Mem.tail _ (List.Mem.tail _ (List.Mem.tail _ (List.Mem.tail _ (List.Mem.tail _ (List.Mem.tail _ (List.Mem.tail _ (List.Mem.tail _ (List.Mem.tail _ (List.Mem.tail _ (List.Mem.tail _ (List.Mem.tail _ (List.Mem.tail _ (List.Mem.tail _ (List.Mem.tail _ (List.Mem.tail _ (List.Mem.tail _ (List.Mem.tail _ (List.Mem.head _))))))))))))))))))))))))))))))))))))))))))))) MM.out (H.cal (List.Mem.tail _ (List.Mem.tail _ (List.Mem.tail _ (List.Mem.tail _ (List.Mem.tail _ (List.Mem.tail _ (List.Mem.tail _ (List.Mem.tail _ (List.Mem.tail _ (List.Mem.tail _ (List.Mem.tail _ (List.Mem.tail _ (List.Mem.tail _ (List.Mem.tail _ (List.Mem.tail _ (List.Mem.tail _ (List.Mem.tail _ (List.Mem.tail _ (List.Mem.tail _ (List.Mem.tail _ (List.Mem.tail _ (List.Mem.tail _ (List.Mem.tail _ (List.Mem.tail _ (List.Mem.tail _ (List.Mem.tail _ (List.Mem.tail _ (List.Mem.tail _ (List.Mem.tail _ (List.Mem.tail _ (List.Mem.tail _ (List.Mem.tail _ (List.Mem.tail _ (List.Mem.tail _ (List.Mem.tail _ (List.Mem.tail _ (List.Mem.tail _ (List.Mem.tail _ (List.Mem.tail _ (List.Mem.tail _ (List.Mem.tail _ (List.Mem.tail _ (List.Mem.head _)))))))))))))))))))))))))))))))))))))))))))) HW.out).mono ?_)
  rintro e w7 ⟨rfl, hb⟩
  replace H := H.below hb
  clear hb
  have cc0 := H.cell (w.heap.size + 1) 0 (.bool (c.o 0)) (List.Mem.head _)
  have cc1 := H.cell (w.heap.size + 1) 1 (.bool (c.o 1)) (List.Mem.tail _ (List.Mem.head _))
  have cc2 := H.cell (w.heap.size + 1) 2 (.bool (c.o 2)) (List.Mem.tail _ (List.Mem.tail _ (List.Mem.head _)))
  have cc3 := H.cell (w.heap.size + 1) 3 (.bool (c.o 3)) (List.Mem.tail _ (List.Mem.tail _ (List.Mem.tail _ (List.Mem.head _))))
  have cc4 := H.cell (w.heap.size + 1) 4 (.bool (c.o 4)) (List.Mem.tail _ (List.Mem.tail _ (List.Mem.tail _ (List.Mem.tail _ (List.Mem.head _)))))
  have cc5 := H.cell (w.heap.size + 1) 5 (.bool (c.o 5)) (List.Mem.tail _ (List.Mem.tail _ (List.Mem.tail _ (List.Mem.tail _ (List.Mem.tail _ (List.Mem.head _))))))
  have cc6 := H.cell (w.heap.size + 1) 6 (.bool (c.o 6)) (List.Mem.tail _ (List.Mem.tail _ (List.Mem.tail _ (List.Mem.tail _ (List.Mem.tail _ (List.Mem.tail _ (List.Mem.head _)))))))
  have cc7 := H.cell (w.heap.size + 1) 7 (.slice aR c.nr cR) (List.Mem.tail _ (List.Mem.tail _ (List.Mem.tail _ (List.Mem.tail _ (List.Mem.tail _ (List.Mem.tail _ (List.Mem.tail _ (List.Mem.head _))))))))
  have cc8 := H.cell (w.heap.size + 1) 8 (.slice aD c.nd cD) (List.Mem.tail _ (List.Mem.tail _ (List.Mem.tail _ (List.Mem.tail _ (List.Mem.tail _ (List.Mem.tail _ (List.Mem.tail _ (List.Mem.tail _ (List.Mem.head _)))))))))
  have lc := H.lt (w.heap.size + 1) 0 (.bool (c.o 0)) (List.Mem.head _)
  go_wp2_with fail
  clear cc0 cc1 cc2 cc3 cc4 cc5 cc6 cc7 cc8 lc
  (with_reducible refine (K.many c aR cR aD cD n (n + 1) 0 0 _ (H.factsV (List.Mem.tail _ (List.Mem.tail _ (List.Mem.tail _ (List.Mem.tail _ (List.Mem.tail _ (List.Mem.tail _ (List.Mem.tail _ (List.Mem.tail _ (List.Mem.tail _ (List.Mem.tail _ (List.Mem.tail _ (List.Mem.tail _ (List.Mem.tail _ (List.Mem.tail _ (List.Mem.tail _ (List.Mem.tail _ (List.Mem.tail _ (List.Mem.tail _ (List.Mem.tail _ (List.Mem.tail _ (List.Mem.tail _ (List.Mem.tail _ (List.Mem.tail _ (List.Mem.tail _ (List.Mem.tail _ (List.Mem.tail _ (List.Mem.tail _ (List.Mem.tail _ (List.Mem.tail _ (List.Mem.tail _ (List.Mem.tail _ (List.Mem.tail _ (List.Mem.tail _ (List.Mem.tail _ (List.Mem.tail _ (List.Mem.tail _ (List.Mem.tail _ (List.Mem.tail _ (List.Mem.tail _ (List.Mem.tail _ (List.Mem.tail _ (List.Mem.tail _ (List.Mem.tail _ (List.Mem.head _))))))))))))))))))))))))))))))))))))))))))))) MM.out (H.cal (List.Mem.tail _ (List.Mem.tail _ (List.Mem.tail _ (List.Mem.tail _ (List.Mem.tail _ (List.Mem.tail _ (List.Mem.tail _ (List.Mem.tail _ (List.Mem.tail _ (List.Mem.tail _ (List.Mem.tail _ (List.Mem.tail _ (List.Mem.tail _ (List.Mem.tail _ (List.Mem.tail _ (List.Mem.tail _ (List.Mem.tail _ (List.Mem.tail _ (List.Mem.tail _ (List.Mem.tail _ (List.Mem.tail _ (List.Mem.tail _ (List.Mem.tail _ (List.Mem.tail _ (List.Mem.tail _ (List.Mem.tail _ (List.Mem.tail _ (List.Mem.tail _ (List.Mem.tail _ (List.Mem.tail _ (List.Mem.tail _ (List.Mem.tail _ (List.Mem.tail _ (List.Mem.tail _ (List.Mem.tail _ (List.Mem.tail _ (List.Mem.tail _ (List.Mem.tail _ (List.Mem.tail _ (List.Mem.tail _ (List.Mem.tail _ (List.Mem.tail _ (List.Mem.head _)))))))))))))))))))))))))))))))))))))))))))) HO.out).mono ?_)
  rintro e w8 ⟨rfl, hb⟩
  replace H := H.below hb
  clear hb
  have cc0 := H.cell (w.heap.size + 1) 0 (.bool (c.o 0)) (List.Mem.head _)
  have cc1 := H.cell (w.heap.size + 1) 1 (.bool (c.o 1)) (List.Mem.tail _ (List.Mem.head _))
  have cc2 := H.cell (w.heap.size + 1) 2 (.bool (c.o 2)) (List.Mem.tail _ (List.Mem.tail _ (List.Mem.head _)))
  have cc3 := H.cell (w.heap.size + 1) 3 (.bool (c.o 3)) (List.Mem.tail _ (List.Mem.tail _ (List.Mem.tail _ (List.Mem.head _))))
  have cc4 := H.cell (w.heap.size + 1) 4 (.bool (c.o 4)) (List.Mem.tail _ (List.Mem.tail _ (List.Mem.tail _ (List.Mem.tail _ (List.Mem.head _)))))
  have cc5 := H.cell (w.heap.size + 1) 5 (.bool (c.o 5)) (List.Mem.tail _ (List.Mem.tail _ (List.Mem.tail _ (List.Mem.tail _ (List.Mem.tail _ (List.Mem.head _))))))
  have cc6 := H.cell (w.heap.size + 1) 6 (.bool (c.o 6)) (List.Mem.tail _ (List.Mem.tail _ (List.Mem.tail _ (List.Mem.tail _ (List.Mem.tail _ (List.Mem.tail _ (List.Mem.head _)))))))
  have cc7 := H.cell (w.heap.size + 1) 7 (.slice aR c.nr cR) (List.Mem.tail _ (List.Mem.tail _ (List.Mem.tail _ (List.Mem.tail _ (List.Mem.tail _ (List.Mem.tail _ (List.Mem.tail _ (List.Mem.head _))))))))
  have cc8 := H.cell (w.heap.size + 1) 8 (.slice aD c.nd cD) (List.Mem.tail _ (List.Mem.tail _ (List.Mem.tail _ (List.Mem.tail _ (List.Mem.tail _ (List.Mem.tail _ (List.Mem.tail _ (List.Mem.tail _ (List.Mem.head _)))))))))
  have lc := H.lt (w.heap.size + 1) 0 (.bool (c.o 0)) (List.Mem.head _)
  go_wp2_with fail
  clear cc0 cc1 cc2 cc3 cc4 cc5 cc6 cc7 cc8 lc
  (with_reducible refine (K.is c aR cR aD cD n false _ (H.factsV (List.Mem.tail _ (List.Mem.tail _ (List.Mem.tail _ (List.Mem.tail _ (List.Mem.tail _ (List.Mem.tail _ (List.Mem.tail _ (List.Mem.tail _ (List.Mem.tail _ (List.Mem.tail _ (List.Mem.tail _ (List.Mem.tail _ (List.Mem.tail _ (List.Mem.tail _ (List.Mem.tail _ (List.Mem.tail _ (List.Mem.tail _ (List.Mem.tail _ (List.Mem.tail _ (List.Mem.tail _ (List.Mem.tail _ (List.Mem.tail _ (List.Mem.tail _ (List.Mem.tail _ (List.Mem.tail _ (List.Mem.tail _ (List.Mem.tail _ (List.Mem.tail _ (List.Mem.tail _ (List.Mem.tail _ (List.Mem.tail _ (List.Mem.tail _ (List.Mem.tail _ (List.Mem.tail _ (List.Mem.tail _ (List.Mem.tail _ (List.Mem.tail _ (List.Mem.tail _ (List.Mem.tail _ (List.Mem.tail _ (List.Mem.tail _ (List.Mem.tail _ (List.Mem.tail _ (List.Mem.head _))))))))))))))))))))))))))))))))))))))))))))) MM.out (H.cal (List.Mem.tail _ (List.Mem.tail _ (List.Mem.tail _ (List.Mem.tail _ (List.Mem.tail _ (List.Mem.tail _ (List.Mem.tail _ (List.Mem.tail _ (List.Mem.tail _ (List.Mem.tail _ (List.Mem.tail _ (List.Mem.tail _ (List.Mem.tail _ (List.Mem.tail _ (List.Mem.tail _ (List.Mem.tail _ (List.Mem.tail _ (List.Mem.tail _ (List.Mem.tail _ (List.Mem.tail _ (List.Mem.tail _ (List.Mem.tail _ (List.Mem.tail _ (List.Mem.tail _ (List.Mem.tail _ (List.Mem.tail _ (List.Mem.tail _ (List.Mem.tail _ (List.Mem.tail _ (List.Mem.tail _ (List.Mem.tail _ (List.Mem.tail _ (List.Mem.tail _ (List.Mem.tail _ (List.Mem.tail _ (List.Mem.tail _ (List.Mem.tail _ (List.Mem.tail _ (List.Mem.tail _ (List.Mem.tail _ (List.Mem.tail _ (List.Mem.tail _ (List.Mem.head _)))))))))))))))))))))))))))))))))))))))))))) ⟨fun g => absurd g (by decide), fun g => absurd g HI.out⟩).mono ?_)
  rintro e w9 ⟨rfl, hb⟩
  replace H := H.below hb
  clear hb
  have cc0 := H.cell (w.heap.size + 1) 0 (.bool (c.o 0)) (List.Mem.head _)
  have cc1 := H.cell (w.heap.size + 1) 1 (.bool (c.o 1)) (List.Mem.tail _ (List.Mem.head _))
  have cc2 := H.cell (w.heap.size + 1) 2 (.bool (c.o 2)) (List.Mem.tail _ (List.Mem.tail _ (List.Mem.head _)))
  have cc3 := H.cell (w.heap.size + 1) 3 (.bool (c.o 3)) (List.Mem.tail _ (List.Mem.tail _ (List.Mem.tail _ (List.Mem.head _))))
  have cc4 := H.cell (w.heap.size + 1) 4 (.bool (c.o 4)) (List.Mem.tail _ (List.Mem.tail _ (List.Mem.tail _ (List.Mem.tail _ (List.Mem.head _)))))
  have cc5 := H.cell (w.heap.size + 1) 5 (.bool (c.o 5)) (List.Mem.tail _ (List.Mem.tail _ (List.Mem.tail _ (List.Mem.tail _ (List.Mem.tail _ (List.Mem.head _))))))
  have cc6 := H.cell (w.heap.size + 1) 6 (.bool (c.o 6)) (List.Mem.tail _ (List.Mem.tail _ (List.Mem.tail _ (List.Mem.tail _ (List.Mem.tail _ (List.Mem.tail _ (List.Mem.head _)))))))
  have cc7 := H.cell (w.heap.size + 1) 7 (.slice aR c.nr cR) (List.Mem.tail _ (List.Mem.tail _ (List.Mem.tail _ (List.Mem.tail _ (List.Mem.tail _ (List.Mem.tail _ (List.Mem.tail _ (List.Mem.head _))))))))
  have cc8 := H.cell (w.heap.size + 1) 8 (.slice aD c.nd cD) (List.Mem.tail _ (List.Mem.tail _ (List.Mem.tail _ (List.Mem.tail _ (List.Mem.tail _ (List.Mem.tail _ (List.Mem.tail _ (List.Mem.tail _ (List.Mem.head _)))))))))
  have lc := H.lt (w.heap.size + 1) 0 (.bool (c.o 0)) (List.Mem.head _)
  go_wp2_with fail
  clear cc0 cc1 cc2 cc3 cc4 cc5 cc6 cc7 cc8 lc
  (with_reducible refine (K.is c aR cR aD cD n false _ (H.factsV (List.Mem.tail _ (List.Mem.tail _ (List.Mem.tail _ (List.Mem.tail _ (List.Mem.tail _ (List.Mem.tail _ (List.Mem.tail _ (List.Mem.tail _ (List.Mem.tail _ (List.Mem.tail _ (List.Mem.tail _ (List.Mem.tail _ (List.Mem.tail _ (List.Mem.tail _ (List.Mem.tail _ (List.Mem.tail _ (List.Mem.tail _ (List.Mem.tail _ (List.Mem.tail _ (List.Mem.tail _ (List.Mem.tail _ (List.Mem.tail _ (List.Mem.tail _ (List.Mem.tail _ (List.Mem.tail _ (List.Mem.tail _ (List.Mem.tail _ (List.Mem.tail _ (List.Mem.tail _ (List.Mem.tail _ (List.Mem.tail _ (List.Mem.tail _ (List.Mem.tail _ (List.Mem.tail _ (List.Mem.tail _ (List.Mem.tail _ (List.Mem.tail _ (List.Mem.tail _ (List.Mem.tail _ (List.Mem.tail _ (List.Mem.tail _ (List.Mem.tail _ (List.Mem.tail _ (List.Mem.head _))))))))))))))))))))))))))))))))))))))))))))) MM.out (H.cal (List.Mem.tail _ (List.Mem.tail _ (List.Mem.tail _ (List.Mem.tail _ (List.Mem.tail _ (List.Mem.tail _ (List.Mem.tail _ (List.Mem.tail _ (List.Mem.tail _ (List.Mem.tail _ (List.Mem.tail _ (List.Mem.tail _ (List.Mem.tail _ (List.Mem.tail _ (List.Mem.tail _ (List.Mem.tail _ (List.Mem.tail _ (List.Mem.tail _ (List.Mem.tail _ (List.Mem.tail _ (List.Mem.tail _ (List.Mem.tail _ (List.Mem.tail _ (List.Mem.tail _ (List.Mem.tail _ (List.Mem.tail _ (List.Mem.tail _ (List.Mem.tail _ (List.Mem.tail _ (List.Mem.tail _ (List.Mem.tail _ (List.Mem.tail _ (List.Mem.tail _ (List.Mem.tail _ (List.Mem.tail _ (List.Mem.tail _ (List.Mem.tail _ (List.Mem.tail _ (List.Mem.tail _ (List.Mem.tail _ (List.Mem.tail _ (List.Mem.tail _ (List.Mem.head _)))))))))))))))))))))))))))))))))))))))))))) ⟨fun g => absurd g (by decide), fun g => absurd g HI.out⟩).mono ?_)
  rintro e w10 ⟨rfl, hb⟩
  replace H := H.below hb
  clear hb
  have cc0 := H.cell (w.heap.size + 1) 0 (.bool (c.o 0)) (List.Mem.head _)
  have cc1 := H.cell (w.heap.size + 1) 1 (.bool (c.o 1)) (List.Mem.tail _ (List.Mem.head _))
  have cc2 := H.cell (w.heap.size + 1) 2 (.bool (c.o 2)) (List.Mem.tail _ (List.Mem.tail _ (List.Mem.head _)))
  have cc3 := H.cell (w.heap.size + 1) 3 (.bool (c.o 3)) (List.Mem.tail _ (List.Mem.tail _ (List.Mem.tail _ (List.Mem.head _))))
  have cc4 := H.cell (w.heap.size + 1) 4 (.bool (c.o 4)) (List.Mem.tail _ (List.Mem.tail _ (List.Mem.tail _ (List.Mem.tail _ (List.Mem.head _)))))
  have cc5 := H.cell (w.heap.size + 1) 5 (.bool (c.o 5)) (List.Mem.tail _ (List.Mem.tail _ (List.Mem.tail _ (List.Mem.tail _ (List.Mem.tail _ (List.Mem.head _))))))
  have cc6 := H.cell (w.heap.size + 1) 6 (.bool (c.o 6)) (List.Mem.tail _ (List.Mem.tail _ (List.Mem.tail _ (List.Mem.tail _ (List.Mem.tail _ (List.Mem.tail _ (List.Mem.head _)))))))
  have cc7 := H.cell (w.heap.size + 1) 7 (.slice aR c.nr cR) (List.Mem.tail _ (List.Mem.tail _ (List.Mem.tail _ (List.Mem.tail _ (List.Mem.tail _ (List.Mem.tail _ (List.Mem.tail _ (List.Mem.head _))))))))
  have cc8 := H.cell (w.heap.size + 1) 8 (.slice aD c.nd cD) (List.Mem.tail _ (List.Mem.tail _ (List.Mem.tail _ (List.Mem.tail _ (List.Mem.tail _ (List.Mem.tail _ (List.Mem.tail _ (List.Mem.tail _ (List.Mem.head _)))))))))
  have lc := H.lt (w.heap.size + 1) 0 (.bool (c.o 0)) (List.Mem.head _)
  go_wp2_with fail
  clear cc0 cc1 cc2 cc3 cc4 cc5 cc6 cc7 cc8 lc
  go_ret
  exact ⟨rfl, H.old⟩

theorem casums_walk (K : CalWay) (c : Ca) (aR : Option Addr) (cR : Nat) (aD : Option Addr) (cD : Nat) (n i j : Int) (w : World) (hL : FactsV w) (hC : CalAt w c aR cR aD cD) (bn : -9223372036854775808 ≤ n ∧ n < 9223372036854775808) (bi : 0 ≤ i ∧ i < 256) (bj : 0 ≤ j ∧ j < 256) :
    Calls Tryd.prog 6 #[.agg #[.bool (c.o 0), .bool (c.o 1), .bool (c.o 2), .bool (c.o 3), .bool (c.o 4), .bool (c.o 5), .bool (c.o 6), .slice aR c.nr cR, .slice aD c.nd cD, .int .i64 n, .int .u8 i, .int .u8 j]] w fun e w' => e = .returned (.bool true) ∧ Below w.heap.size w w' := by
  by_cases hf : c.Few
  · by_cases hm : c.May
    · by_cases hd : 1 ≤ n ∧ n ≤ 3652059
      · obtain ⟨p, hp⟩ : ∃ p, i % 60 = p := ⟨_, rfl⟩
        obtain ⟨q, hq⟩ : ∃ q, j % 60 = q := ⟨_, rfl⟩
        have pb : 0 ≤ p ∧ p < 60 := by omega
        have qb : 0 ≤ q ∧ q < 60 := by omega
        by_cases hb : n + p + q < 3652059
        · have dm : ∀ a k : Int, 1 ≤ a → 0 ≤ k → k ≤ 4000 → a + k ≤ 3652059 → ManyIs c a (a + k) (c.cnt a k.toNat) 0 := fun a k h1 h2 h3 h4 =>
            Or.inl ⟨⟨h1, by omega⟩, ⟨by omega, by omega⟩, by omega, by omega, by rw [show a + k - a = k by omega], rfl⟩
          have hx := dm n p hd.1 pb.1 (by omega) (by omega)
          have hy := dm (n + p) q (by omega) qb.1 (by omega) (by omega)
          have hz := dm n (p + q) hd.1 (by omega) (by omega) (by omega)
          have ho := dm n 1 hd.1 (by omega) (by omega) (by omega)
          have e := c.cnt_add n p.toNat q.toNat
          rw [show p.toNat + q.toNat = (p + q).toNat by omega, show n + (p.toNat : Int) = n + p by omega] at e
          rw [e, ← Int.add_assoc] at hz
          have b1 := c.cnt_bd n p.toNat
          have b2 := c.cnt_bd (n + p) q.toNat
          have o1 : c.cnt n (1 : Int).toNat = 0 + if c.ib (n + ((0 : Nat) : Int)) = true then 1 else 0 := rfl
          rw [o1, show n + ((0 : Nat) : Int) = n by omega] at ho
          by_cases hi : c.Is n
          · rw [Ca.ib_iff.2 hi, if_pos rfl] at ho
            exact casums_int K c aR cR aD cD n i j p q _ _ w hL hC bi bj (decide_eq_true hf) hf.small hm (decide_eq_true hd) hd hp hq pb qb hb hx hy hz ho hi (by omega)
          · rw [bool_not Ca.ib_iff hi, if_neg (by decide)] at ho
            exact casums_inf K c aR cR aD cD n i j p q _ _ w hL hC bi bj (decide_eq_true hf) hf.small hm (decide_eq_true hd) hd hp hq pb qb hb hx hy hz ho hi (by omega)
        · exact casums_far K c aR cR aD cD n i j p q w hL hC bi bj (decide_eq_true hf) hf.small hm (decide_eq_true hd) hd hp hq pb qb (by omega)
      · exact casums_noday K c aR cR aD cD n i j w hL hC bi bj (decide_eq_true hf) hf.small hm (decide_eq_false hd)
    · exact casums_no K c aR cR aD cD n i j w hL hC bi bj (decide_eq_true hf) hf.small hm
  · exact casums_many K c aR cR aD cD n i j w hL hC bi bj (decide_eq_false hf)
end Go.Proofs.YtkadodkdbopgnaaDoor
