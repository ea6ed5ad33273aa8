/- CalRules: the walk, a case (T). -/
import Derived.Test.YtkadodkdbopgnaaDoorCaRuleB
import Derived.Deep.RegionHeld3
namespace Go.Proofs.YtkadodkdbopgnaaDoor
open Go.RowKit
set_option linter.unusedVariables false
set_option linter.unusedSimpArgs false


set_option maxHeartbeats 8000000 in
set_option maxRecDepth 100000 in
theorem carules_T (K : CalWay) (c : Ca) (aR : Option Addr) (cR : Nat) (aD : Option Addr) (cD : Nat) (r : Ru) (z n : Int) (w : World) (hL : FactsV w) (hCc : CalAt w c aR cR aD cD) (bz : 0 ≤ z ∧ z < 256) (hf : decide (c.nr ≤ 12 ∧ c.nd ≤ 60) = true) (sn : c.nr ≤ 12) (hz : c.Small) (ma : c.May) (hr : Ru.mb r = true) (mr : r.May) (mp : (c.plus r).May) (hn : decide (1 ≤ n ∧ n ≤ 3652059) = true) (v : Nat) (hv : wk n = v) (k7 : z % 7 = 0 ∨ z % 7 = 1 ∨ z % 7 = 2 ∨ z % 7 = 3 ∨ z % 7 = 4 ∨ z % 7 = 5 ∨ z % 7 = 6) (hp : c.Is n) (hq : ¬ (c.plus r).Is n) (hx : r.Is n) (u0 u1 u2 u3 u4 u5 u6 : Bool) (hu0 : u0 = true ↔ (c.offed 0).May) (hu1 : u1 = true ↔ (c.offed 1).May) (hu2 : u2 = true ↔ (c.offed 2).May) (hu3 : u3 = true ↔ (c.offed 3).May) (hu4 : u4 = true ↔ (c.offed 4).May) (hu5 : u5 = true ↔ (c.offed 5).May) (hu6 : u6 = true ↔ (c.offed 6).May) (hw0 : ((v : Int) != 0) = true ↔ (c.offed 0).Is n) (hw1 : ((v : Int) != 1) = true ↔ (c.offed 1).Is n) (hw2 : ((v : Int) != 2) = true ↔ (c.offed 2).Is n) (hw3 : ((v : Int) != 3) = true ↔ (c.offed 3).Is n) (hw4 : ((v : Int) != 4) = true ↔ (c.offed 4).Is n) (hw5 : ((v : Int) != 5) = true ↔ (c.offed 5).Is n) (hw6 : ((v : Int) != 6) = true ↔ (c.offed 6).Is n) :
    Calls Tryd.prog 8 #[.agg #[.bool (c.o 0), .bool (c.o 1), .bool (c.o 2), .bool (c.o 3), .bool (c.o 4), .bool (c.o 5), .bool (c.o 6), .slice aR c.nr cR, .slice aD c.nd cD, .int .i64 r.k, .int .i64 r.m, .int .i64 r.d, .int .i64 r.q, .int .i64 r.o, .int .i64 r.s, .int .i64 r.f, .int .i64 r.t, .int .u8 z, .int .i64 n]] w fun e w' => e = .returned (.bool true) ∧ Below w.heap.size w w' := by
  have H := ((Held.start w).add (f := factsVF) hL).add (f := calF c aR cR aD cD) hCc
  clear hL hCc
  have HL0 : Hid (FactsV w ∧ CalAt w c aR cR aD cD) := Lib.hid ⟨H.factsV (List.Mem.tail _ (List.Mem.head _)), H.cal (List.Mem.head _)⟩
  have HF := Lib.hid hf
  have HZ := Lib.hid hz
  have MA := Lib.hid ma
  have HR := Lib.hid hr
  have MR := Lib.hid mr
  have MP := Lib.hid mp
  have HN := Lib.hid hn
  have HV := Lib.hid hv
  have K7 := Lib.hid k7
  have HP := Lib.hid hp
  have HQ := Lib.hid hq
  have HX := Lib.hid hx
  have HU0 := Lib.hid hu0
  have HU1 := Lib.hid hu1
  have HU2 := Lib.hid hu2
  have HU3 := Lib.hid hu3
  have HU4 := Lib.hid hu4
  have HU5 := Lib.hid hu5
  have HU6 := Lib.hid hu6
  have HW0 := Lib.hid hw0
  have HW1 := Lib.hid hw1
  have HW2 := Lib.hid hw2
  have HW3 := Lib.hid hw3
  have HW4 := Lib.hid hw4
  have HW5 := Lib.hid hw5
  have HW6 := Lib.hid hw6
  clear hf hz ma hr mr mp hn hv k7 hp hq hx hu0 hu1 hu2 hu3 hu4 hu5 hu6 hw0 hw1 hw2 hw3 hw4 hw5 hw6
  go_enter Tryd.func8, Tryd.ntmps8
  go_wp2_with fail
  replace H := (((H.box_19 (w.heap.size) (.bool (c.o 0)) (.bool (c.o 1)) (.bool (c.o 2)) (.bool (c.o 3)) (.bool (c.o 4)) (.bool (c.o 5)) (.bool (c.o 6)) (.slice aR c.nr cR) (.slice aD c.nd cD) (.int .i64 r.k) (.int .i64 r.m) (.int .i64 r.d) (.int .i64 r.q) (.int .i64 r.o) (.int .i64 r.s) (.int .i64 r.f) (.int .i64 r.t) (.int .u8 z) (.int .i64 n) 53 rfl).box_9 (w.heap.size + 1) (.bool (c.o 0)) (.bool (c.o 1)) (.bool (c.o 2)) (.bool (c.o 3)) (.bool (c.o 4)) (.bool (c.o 5)) (.bool (c.o 6)) (.slice aR c.nr cR) (.slice aD c.nd cD) 26 (by simp)).oct (w.heap.size + 2) (.int .i64 r.k) (.int .i64 r.m) (.int .i64 r.d) (.int .i64 r.q) (.int .i64 r.o) (.int .i64 r.s) (.int .i64 r.f) (.int .i64 r.t) 51 (by simp))
  (with_reducible refine (cashown_any K _ (H.factsV (mt32 (mt32 (mt8 (mt1 mh)))))).mono ?_)
  rintro e w1 ⟨rfl, hb⟩
  replace H := H.below hb
  clear hb
  have cc0 := H.cell (w.heap.size + 1) 0 (.bool (c.o 0)) (mt8 (mt8 mh))
  have cc1 := H.cell (w.heap.size + 1) 1 (.bool (c.o 1)) (mt8 (mt8 (mt1 mh)))
  have cc2 := H.cell (w.heap.size + 1) 2 (.bool (c.o 2)) (mt8 (mt8 (mt1 (mt1 mh))))
  have cc3 := H.cell (w.heap.size + 1) 3 (.bool (c.o 3)) (mt8 (mt8 (mt1 (mt1 (mt1 mh)))))
  have cc4 := H.cell (w.heap.size + 1) 4 (.bool (c.o 4)) (mt8 (mt8 (mt1 (mt1 (mt1 (mt1 mh))))))
  have cc5 := H.cell (w.heap.size + 1) 5 (.bool (c.o 5)) (mt8 (mt8 (mt1 (mt1 (mt1 (mt1 (mt1 mh)))))))
  have cc6 := H.cell (w.heap.size + 1) 6 (.bool (c.o 6)) (mt8 (mt8 (mt1 (mt1 (mt1 (mt1 (mt1 (mt1 mh))))))))
  have cc7 := H.cell (w.heap.size + 1) 7 (.slice aR c.nr cR) (mt8 (mt8 (mt1 (mt1 (mt1 (mt1 (mt1 (mt1 (mt1 mh)))))))))
  have cc8 := H.cell (w.heap.size + 1) 8 (.slice aD c.nd cD) (mt8 (mt8 (mt8 mh)))
  have lc := H.lt (w.heap.size + 1) 0 (.bool (c.o 0)) (mt8 (mt8 mh))
  go_wp2_with fail
  clear cc0 cc1 cc2 cc3 cc4 cc5 cc6 cc7 cc8 lc
  (with_reducible refine (few_any c aR cR aD cD true _ HF.out).mono ?_)
  rintro e w2 ⟨rfl, hb⟩
  replace H := H.below hb
  clear hb
  have cc0 := H.cell (w.heap.size + 1) 0 (.bool (c.o 0)) (mt8 (mt8 mh))
  have cc1 := H.cell (w.heap.size + 1) 1 (.bool (c.o 1)) (mt8 (mt8 (mt1 mh)))
  have cc2 := H.cell (w.heap.size + 1) 2 (.bool (c.o 2)) (mt8 (mt8 (mt1 (mt1 mh))))
  have cc3 := H.cell (w.heap.size + 1) 3 (.bool (c.o 3)) (mt8 (mt8 (mt1 (mt1 (mt1 mh)))))
  have cc4 := H.cell (w.heap.size + 1) 4 (.bool (c.o 4)) (mt8 (mt8 (mt1 (mt1 (mt1 (mt1 mh))))))
  have cc5 := H.cell (w.heap.size + 1) 5 (.bool (c.o 5)) (mt8 (mt8 (mt1 (mt1 (mt1 (mt1 (mt1 mh)))))))
  have cc6 := H.cell (w.heap.size + 1) 6 (.bool (c.o 6)) (mt8 (mt8 (mt1 (mt1 (mt1 (mt1 (mt1 (mt1 mh))))))))
  have cc7 := H.cell (w.heap.size + 1) 7 (.slice aR c.nr cR) (mt8 (mt8 (mt1 (mt1 (mt1 (mt1 (mt1 (mt1 (mt1 mh)))))))))
  have cc8 := H.cell (w.heap.size + 1) 8 (.slice aD c.nd cD) (mt8 (mt8 (mt8 mh)))
  have lc := H.lt (w.heap.size + 1) 0 (.bool (c.o 0)) (mt8 (mt8 mh))
  go_wp2_with fail
  clear cc0 cc1 cc2 cc3 cc4 cc5 cc6 cc7 cc8 lc
  (with_reducible refine (rcmay_any c aR cR aD cD true _ HZ.out (H.cal (mt32 (mt32 (mt8 mh)))) ⟨fun _ => MA.out, fun _ => rfl⟩).mono ?_)
  rintro e w3 ⟨rfl, hb⟩
  replace H := H.below hb
  clear hb
  have cr0 := H.cell (w.heap.size + 2) 0 (.int .i64 r.k) mh
  have cr1 := H.cell (w.heap.size + 2) 1 (.int .i64 r.m) (mt1 mh)
  have cr2 := H.cell (w.heap.size + 2) 2 (.int .i64 r.d) (mt1 (mt1 mh))
  have cr3 := H.cell (w.heap.size + 2) 3 (.int .i64 r.q) (mt1 (mt1 (mt1 mh)))
  have cr4 := H.cell (w.heap.size + 2) 4 (.int .i64 r.o) (mt1 (mt1 (mt1 (mt1 mh))))
  have cr5 := H.cell (w.heap.size + 2) 5 (.int .i64 r.s) (mt1 (mt1 (mt1 (mt1 (mt1 mh)))))
  have cr6 := H.cell (w.heap.size + 2) 6 (.int .i64 r.f) (mt1 (mt1 (mt1 (mt1 (mt1 (mt1 mh))))))
  have cr7 := H.cell (w.heap.size + 2) 7 (.int .i64 r.t) (mt1 (mt1 (mt1 (mt1 (mt1 (mt1 (mt1 mh)))))))
  have lr := H.lt (w.heap.size + 2) 0 (.int .i64 r.k) mh
  go_wp2_with fail
  clear cr0 cr1 cr2 cr3 cr4 cr5 cr6 cr7 lr
  (with_reducible refine (rumay_any r.k r.m r.d r.q r.o r.s r.f r.t true _ HR.out).mono ?_)
  rintro e w4 ⟨rfl, hb⟩
  replace H := H.below hb
  clear hb
  go_wp2_with fail
  (with_reducible refine (Calls.same (rday13_is n true _ HN.out)).mono ?_)
  rintro e w5 ⟨rfl, hb⟩
  replace H := H.below hb
  clear hb
  have sox := H.lt (w.heap.size) 0 (.bool (c.o 0)) (mt32 (mt1 (mt1 mh)))
  have soc := H.lt (w.heap.size + 1) 0 (.bool (c.o 0)) (mt8 (mt8 mh))
  have sor := H.lt (w.heap.size + 2) 0 (.int .i64 r.k) mh
  have cc0 := H.cell (w.heap.size + 1) 0 (.bool (c.o 0)) (mt8 (mt8 mh))
  have cc1 := H.cell (w.heap.size + 1) 1 (.bool (c.o 1)) (mt8 (mt8 (mt1 mh)))
  have cc2 := H.cell (w.heap.size + 1) 2 (.bool (c.o 2)) (mt8 (mt8 (mt1 (mt1 mh))))
  have cc3 := H.cell (w.heap.size + 1) 3 (.bool (c.o 3)) (mt8 (mt8 (mt1 (mt1 (mt1 mh)))))
  have cc4 := H.cell (w.heap.size + 1) 4 (.bool (c.o 4)) (mt8 (mt8 (mt1 (mt1 (mt1 (mt1 mh))))))
  have cc5 := H.cell (w.heap.size + 1) 5 (.bool (c.o 5)) (mt8 (mt8 (mt1 (mt1 (mt1 (mt1 (mt1 mh)))))))
  have cc6 := H.cell (w.heap.size + 1) 6 (.bool (c.o 6)) (mt8 (mt8 (mt1 (mt1 (mt1 (mt1 (mt1 (mt1 mh))))))))
  have cc7 := H.cell (w.heap.size + 1) 7 (.slice aR c.nr cR) (mt8 (mt8 (mt1 (mt1 (mt1 (mt1 (mt1 (mt1 (mt1 mh)))))))))
  have cc8 := H.cell (w.heap.size + 1) 8 (.slice aD c.nd cD) (mt8 (mt8 (mt8 mh)))
  have lc := H.lt (w.heap.size + 1) 0 (.bool (c.o 0)) (mt8 (mt8 mh))
  go_wp2_with fail
  clear cc0 cc1 cc2 cc3 cc4 cc5 cc6 cc7 cc8 lc
  replace H := (H.box_9 (w5.heap.size) (.bool (c.o 0)) (.bool (c.o 1)) (.bool (c.o 2)) (.bool (c.o 3)) (.bool (c.o 4)) (.bool (c.o 5)) (.bool (c.o 6)) (.slice aR c.nr cR) (.slice aD c.nd cD) 26 rfl)
  replace H := (H.is (w5.heap.size) 7 (.slice aR c.nr cR) (mt1 (mt1 (mt1 (mt1 (mt1 (mt1 (mt1 mh)))))))).erase13 8
  have KS : Hid (∀ w' : World, Held w (.is (w5.heap.size) 7 :: .cell (w5.heap.size) 0 (.bool (c.o 0)) :: .cell (w5.heap.size) 1 (.bool (c.o 1)) :: .cell (w5.heap.size) 2 (.bool (c.o 2)) :: .cell (w5.heap.size) 3 (.bool (c.o 3)) :: .cell (w5.heap.size) 4 (.bool (c.o 4)) :: .cell (w5.heap.size) 5 (.bool (c.o 5)) :: .cell (w5.heap.size) 6 (.bool (c.o 6)) :: .cell (w5.heap.size) 8 (.slice aD c.nd cD) :: .free (w5.heap.size) 0 :: .free (w5.heap.size) 1 :: .free (w5.heap.size) 2 :: .free (w5.heap.size) 3 :: .free (w5.heap.size) 4 :: .free (w5.heap.size) 5 :: .free (w5.heap.size) 6 :: .free (w5.heap.size) 7 :: .free (w5.heap.size) 8 :: .cell (w.heap.size + 2) 0 (.int .i64 r.k) :: .cell (w.heap.size + 2) 1 (.int .i64 r.m) :: .cell (w.heap.size + 2) 2 (.int .i64 r.d) :: .cell (w.heap.size + 2) 3 (.int .i64 r.q) :: .cell (w.heap.size + 2) 4 (.int .i64 r.o) :: .cell (w.heap.size + 2) 5 (.int .i64 r.s) :: .cell (w.heap.size + 2) 6 (.int .i64 r.f) :: .cell (w.heap.size + 2) 7 (.int .i64 r.t) :: .free (w.heap.size + 2) 0 :: .free (w.heap.size + 2) 1 :: .free (w.heap.size + 2) 2 :: .free (w.heap.size + 2) 3 :: .free (w.heap.size + 2) 4 :: .free (w.heap.size + 2) 5 :: .free (w.heap.size + 2) 6 :: .free (w.heap.size + 2) 7 :: .cell (w.heap.size + 1) 0 (.bool (c.o 0)) :: .cell (w.heap.size + 1) 1 (.bool (c.o 1)) :: .cell (w.heap.size + 1) 2 (.bool (c.o 2)) :: .cell (w.heap.size + 1) 3 (.bool (c.o 3)) :: .cell (w.heap.size + 1) 4 (.bool (c.o 4)) :: .cell (w.heap.size + 1) 5 (.bool (c.o 5)) :: .cell (w.heap.size + 1) 6 (.bool (c.o 6)) :: .cell (w.heap.size + 1) 7 (.slice aR c.nr cR) :: .cell (w.heap.size + 1) 8 (.slice aD c.nd cD) :: .free (w.heap.size + 1) 0 :: .free (w.heap.size + 1) 1 :: .free (w.heap.size + 1) 2 :: .free (w.heap.size + 1) 3 :: .free (w.heap.size + 1) 4 :: .free (w.heap.size + 1) 5 :: .free (w.heap.size + 1) 6 :: .free (w.heap.size + 1) 7 :: .free (w.heap.size + 1) 8 :: .cell (w.heap.size) 0 (.bool (c.o 0)) :: .cell (w.heap.size) 1 (.bool (c.o 1)) :: .cell (w.heap.size) 2 (.bool (c.o 2)) :: .cell (w.heap.size) 3 (.bool (c.o 3)) :: .cell (w.heap.size) 4 (.bool (c.o 4)) :: .cell (w.heap.size) 5 (.bool (c.o 5)) :: .cell (w.heap.size) 6 (.bool (c.o 6)) :: .cell (w.heap.size) 7 (.slice aR c.nr cR) :: .cell (w.heap.size) 8 (.slice aD c.nd cD) :: .cell (w.heap.size) 9 (.int .i64 r.k) :: .cell (w.heap.size) 10 (.int .i64 r.m) :: .cell (w.heap.size) 11 (.int .i64 r.d) :: .cell (w.heap.size) 12 (.int .i64 r.q) :: .cell (w.heap.size) 13 (.int .i64 r.o) :: .cell (w.heap.size) 14 (.int .i64 r.s) :: .cell (w.heap.size) 15 (.int .i64 r.f) :: .cell (w.heap.size) 16 (.int .i64 r.t) :: .cell (w.heap.size) 17 (.int .u8 z) :: .cell (w.heap.size) 18 (.int .i64 n) :: .free (w.heap.size) 0 :: .free (w.heap.size) 1 :: .free (w.heap.size) 2 :: .free (w.heap.size) 3 :: .free (w.heap.size) 4 :: .free (w.heap.size) 5 :: .free (w.heap.size) 6 :: .free (w.heap.size) 7 :: .free (w.heap.size) 8 :: .free (w.heap.size) 9 :: .free (w.heap.size) 10 :: .free (w.heap.size) 11 :: .free (w.heap.size) 12 :: .free (w.heap.size) 13 :: .free (w.heap.size) 14 :: .free (w.heap.size) 15 :: .free (w.heap.size) 16 :: .free (w.heap.size) 17 :: .free (w.heap.size) 18 :: calF c aR cR aD cD :: factsVF :: []) w' → w'.cell? ⟨w.heap.size + 1, 0, none⟩ = some (.bool (c.o 0)) ∧ w'.cell? ⟨w.heap.size + 1, 1, none⟩ = some (.bool (c.o 1)) ∧ w'.cell? ⟨w.heap.size + 1, 2, none⟩ = some (.bool (c.o 2)) ∧ w'.cell? ⟨w.heap.size + 1, 3, none⟩ = some (.bool (c.o 3)) ∧ w'.cell? ⟨w.heap.size + 1, 4, none⟩ = some (.bool (c.o 4)) ∧ w'.cell? ⟨w.heap.size + 1, 5, none⟩ = some (.bool (c.o 5)) ∧ w'.cell? ⟨w.heap.size + 1, 6, none⟩ = some (.bool (c.o 6)) ∧ w'.cell? ⟨w.heap.size + 1, 7, none⟩ = some (.slice aR c.nr cR) ∧ w'.cell? ⟨w.heap.size + 1, 8, none⟩ = some (.slice aD c.nd cD) ∧ w'.cell? ⟨w.heap.size + 2, 0, none⟩ = some (.int .i64 r.k) ∧ w'.cell? ⟨w.heap.size + 2, 1, none⟩ = some (.int .i64 r.m) ∧ w'.cell? ⟨w.heap.size + 2, 2, none⟩ = some (.int .i64 r.d) ∧ w'.cell? ⟨w.heap.size + 2, 3, none⟩ = some (.int .i64 r.q) ∧ w'.cell? ⟨w.heap.size + 2, 4, none⟩ = some (.int .i64 r.o) ∧ w'.cell? ⟨w.heap.size + 2, 5, none⟩ = some (.int .i64 r.s) ∧ w'.cell? ⟨w.heap.size + 2, 6, none⟩ = some (.int .i64 r.f) ∧ w'.cell? ⟨w.heap.size + 2, 7, none⟩ = some (.int .i64 r.t) ∧ (w'.cell? ⟨w5.heap.size, 7, none⟩).isSome = true ∧ w'.frozen? ⟨w5.heap.size, 7, none⟩ = false ∧ Held w (.is (w5.heap.size) 7 :: .cell (w5.heap.size) 0 (.bool (c.o 0)) :: .cell (w5.heap.size) 1 (.bool (c.o 1)) :: .cell (w5.heap.size) 2 (.bool (c.o 2)) :: .cell (w5.heap.size) 3 (.bool (c.o 3)) :: .cell (w5.heap.size) 4 (.bool (c.o 4)) :: .cell (w5.heap.size) 5 (.bool (c.o 5)) :: .cell (w5.heap.size) 6 (.bool (c.o 6)) :: .cell (w5.heap.size) 8 (.slice aD c.nd cD) :: .free (w5.heap.size) 0 :: .free (w5.heap.size) 1 :: .free (w5.heap.size) 2 :: .free (w5.heap.size) 3 :: .free (w5.heap.size) 4 :: .free (w5.heap.size) 5 :: .free (w5.heap.size) 6 :: .free (w5.heap.size) 7 :: .free (w5.heap.size) 8 :: .cell (w.heap.size + 2) 0 (.int .i64 r.k) :: .cell (w.heap.size + 2) 1 (.int .i64 r.m) :: .cell (w.heap.size + 2) 2 (.int .i64 r.d) :: .cell (w.heap.size + 2) 3 (.int .i64 r.q) :: .cell (w.heap.size + 2) 4 (.int .i64 r.o) :: .cell (w.heap.size + 2) 5 (.int .i64 r.s) :: .cell (w.heap.size + 2) 6 (.int .i64 r.f) :: .cell (w.heap.size + 2) 7 (.int .i64 r.t) :: .free (w.heap.size + 2) 0 :: .free (w.heap.size + 2) 1 :: .free (w.heap.size + 2) 2 :: .free (w.heap.size + 2) 3 :: .free (w.heap.size + 2) 4 :: .free (w.heap.size + 2) 5 :: .free (w.heap.size + 2) 6 :: .free (w.heap.size + 2) 7 :: .cell (w.heap.size + 1) 0 (.bool (c.o 0)) :: .cell (w.heap.size + 1) 1 (.bool (c.o 1)) :: .cell (w.heap.size + 1) 2 (.bool (c.o 2)) :: .cell (w.heap.size + 1) 3 (.bool (c.o 3)) :: .cell (w.heap.size + 1) 4 (.bool (c.o 4)) :: .cell (w.heap.size + 1) 5 (.bool (c.o 5)) :: .cell (w.heap.size + 1) 6 (.bool (c.o 6)) :: .cell (w.heap.size + 1) 7 (.slice aR c.nr cR) :: .cell (w.heap.size + 1) 8 (.slice aD c.nd cD) :: .free (w.heap.size + 1) 0 :: .free (w.heap.size + 1) 1 :: .free (w.heap.size + 1) 2 :: .free (w.heap.size + 1) 3 :: .free (w.heap.size + 1) 4 :: .free (w.heap.size + 1) 5 :: .free (w.heap.size + 1) 6 :: .free (w.heap.size + 1) 7 :: .free (w.heap.size + 1) 8 :: .cell (w.heap.size) 0 (.bool (c.o 0)) :: .cell (w.heap.size) 1 (.bool (c.o 1)) :: .cell (w.heap.size) 2 (.bool (c.o 2)) :: .cell (w.heap.size) 3 (.bool (c.o 3)) :: .cell (w.heap.size) 4 (.bool (c.o 4)) :: .cell (w.heap.size) 5 (.bool (c.o 5)) :: .cell (w.heap.size) 6 (.bool (c.o 6)) :: .cell (w.heap.size) 7 (.slice aR c.nr cR) :: .cell (w.heap.size) 8 (.slice aD c.nd cD) :: .cell (w.heap.size) 9 (.int .i64 r.k) :: .cell (w.heap.size) 10 (.int .i64 r.m) :: .cell (w.heap.size) 11 (.int .i64 r.d) :: .cell (w.heap.size) 12 (.int .i64 r.q) :: .cell (w.heap.size) 13 (.int .i64 r.o) :: .cell (w.heap.size) 14 (.int .i64 r.s) :: .cell (w.heap.size) 15 (.int .i64 r.f) :: .cell (w.heap.size) 16 (.int .i64 r.t) :: .cell (w.heap.size) 17 (.int .u8 z) :: .cell (w.heap.size) 18 (.int .i64 n) :: .free (w.heap.size) 0 :: .free (w.heap.size) 1 :: .free (w.heap.size) 2 :: .free (w.heap.size) 3 :: .free (w.heap.size) 4 :: .free (w.heap.size) 5 :: .free (w.heap.size) 6 :: .free (w.heap.size) 7 :: .free (w.heap.size) 8 :: .free (w.heap.size) 9 :: .free (w.heap.size) 10 :: .free (w.heap.size) 11 :: .free (w.heap.size) 12 :: .free (w.heap.size) 13 :: .free (w.heap.size) 14 :: .free (w.heap.size) 15 :: .free (w.heap.size) 16 :: .free (w.heap.size) 17 :: .free (w.heap.size) 18 :: calF c aR cR aD cD :: factsVF :: []) w') := Lib.hid (fun _ h => ⟨h.cell (w.heap.size + 1) 0 (.bool (c.o 0)) (mt32 (mt1 (mt1 mh))), h.cell (w.heap.size + 1) 1 (.bool (c.o 1)) (mt32 (mt1 (mt1 (mt1 mh)))), h.cell (w.heap.size + 1) 2 (.bool (c.o 2)) (mt32 (mt1 (mt1 (mt1 (mt1 mh))))), h.cell (w.heap.size + 1) 3 (.bool (c.o 3)) (mt32 (mt1 (mt1 (mt1 (mt1 (mt1 mh)))))), h.cell (w.heap.size + 1) 4 (.bool (c.o 4)) (mt32 (mt1 (mt1 (mt1 (mt1 (mt1 (mt1 mh))))))), h.cell (w.heap.size + 1) 5 (.bool (c.o 5)) (mt32 (mt1 (mt1 (mt1 (mt1 (mt1 (mt1 (mt1 mh)))))))), h.cell (w.heap.size + 1) 6 (.bool (c.o 6)) (mt32 (mt8 mh)), h.cell (w.heap.size + 1) 7 (.slice aR c.nr cR) (mt32 (mt8 (mt1 mh))), h.cell (w.heap.size + 1) 8 (.slice aD c.nd cD) (mt32 (mt8 (mt1 (mt1 mh)))), h.cell (w.heap.size + 2) 0 (.int .i64 r.k) (mt8 (mt8 (mt1 (mt1 mh)))), h.cell (w.heap.size + 2) 1 (.int .i64 r.m) (mt8 (mt8 (mt1 (mt1 (mt1 mh))))), h.cell (w.heap.size + 2) 2 (.int .i64 r.d) (mt8 (mt8 (mt1 (mt1 (mt1 (mt1 mh)))))), h.cell (w.heap.size + 2) 3 (.int .i64 r.q) (mt8 (mt8 (mt1 (mt1 (mt1 (mt1 (mt1 mh))))))), h.cell (w.heap.size + 2) 4 (.int .i64 r.o) (mt8 (mt8 (mt1 (mt1 (mt1 (mt1 (mt1 (mt1 mh)))))))), h.cell (w.heap.size + 2) 5 (.int .i64 r.s) (mt8 (mt8 (mt1 (mt1 (mt1 (mt1 (mt1 (mt1 (mt1 mh))))))))), h.cell (w.heap.size + 2) 6 (.int .i64 r.f) (mt8 (mt8 (mt8 mh))), h.cell (w.heap.size + 2) 7 (.int .i64 r.t) (mt8 (mt8 (mt8 (mt1 mh)))), h.all (.is (w5.heap.size) 7) mh, h.frozen (w5.heap.size) 7 (mt8 (mt8 mh)), h⟩)
  have KH : Hid (∀ w' : World, w'.cell? ⟨w.heap.size + 1, 0, none⟩ = some (.bool (c.o 0)) ∧ w'.cell? ⟨w.heap.size + 1, 1, none⟩ = some (.bool (c.o 1)) ∧ w'.cell? ⟨w.heap.size + 1, 2, none⟩ = some (.bool (c.o 2)) ∧ w'.cell? ⟨w.heap.size + 1, 3, none⟩ = some (.bool (c.o 3)) ∧ w'.cell? ⟨w.heap.size + 1, 4, none⟩ = some (.bool (c.o 4)) ∧ w'.cell? ⟨w.heap.size + 1, 5, none⟩ = some (.bool (c.o 5)) ∧ w'.cell? ⟨w.heap.size + 1, 6, none⟩ = some (.bool (c.o 6)) ∧ w'.cell? ⟨w.heap.size + 1, 7, none⟩ = some (.slice aR c.nr cR) ∧ w'.cell? ⟨w.heap.size + 1, 8, none⟩ = some (.slice aD c.nd cD) ∧ w'.cell? ⟨w.heap.size + 2, 0, none⟩ = some (.int .i64 r.k) ∧ w'.cell? ⟨w.heap.size + 2, 1, none⟩ = some (.int .i64 r.m) ∧ w'.cell? ⟨w.heap.size + 2, 2, none⟩ = some (.int .i64 r.d) ∧ w'.cell? ⟨w.heap.size + 2, 3, none⟩ = some (.int .i64 r.q) ∧ w'.cell? ⟨w.heap.size + 2, 4, none⟩ = some (.int .i64 r.o) ∧ w'.cell? ⟨w.heap.size + 2, 5, none⟩ = some (.int .i64 r.s) ∧ w'.cell? ⟨w.heap.size + 2, 6, none⟩ = some (.int .i64 r.f) ∧ w'.cell? ⟨w.heap.size + 2, 7, none⟩ = some (.int .i64 r.t) ∧ (w'.cell? ⟨w5.heap.size, 7, none⟩).isSome = true ∧ w'.frozen? ⟨w5.heap.size, 7, none⟩ = false ∧ Held w (.is (w5.heap.size) 7 :: .cell (w5.heap.size) 0 (.bool (c.o 0)) :: .cell (w5.heap.size) 1 (.bool (c.o 1)) :: .cell (w5.heap.size) 2 (.bool (c.o 2)) :: .cell (w5.heap.size) 3 (.bool (c.o 3)) :: .cell (w5.heap.size) 4 (.bool (c.o 4)) :: .cell (w5.heap.size) 5 (.bool (c.o 5)) :: .cell (w5.heap.size) 6 (.bool (c.o 6)) :: .cell (w5.heap.size) 8 (.slice aD c.nd cD) :: .free (w5.heap.size) 0 :: .free (w5.heap.size) 1 :: .free (w5.heap.size) 2 :: .free (w5.heap.size) 3 :: .free (w5.heap.size) 4 :: .free (w5.heap.size) 5 :: .free (w5.heap.size) 6 :: .free (w5.heap.size) 7 :: .free (w5.heap.size) 8 :: .cell (w.heap.size + 2) 0 (.int .i64 r.k) :: .cell (w.heap.size + 2) 1 (.int .i64 r.m) :: .cell (w.heap.size + 2) 2 (.int .i64 r.d) :: .cell (w.heap.size + 2) 3 (.int .i64 r.q) :: .cell (w.heap.size + 2) 4 (.int .i64 r.o) :: .cell (w.heap.size + 2) 5 (.int .i64 r.s) :: .cell (w.heap.size + 2) 6 (.int .i64 r.f) :: .cell (w.heap.size + 2) 7 (.int .i64 r.t) :: .free (w.heap.size + 2) 0 :: .free (w.heap.size + 2) 1 :: .free (w.heap.size + 2) 2 :: .free (w.heap.size + 2) 3 :: .free (w.heap.size + 2) 4 :: .free (w.heap.size + 2) 5 :: .free (w.heap.size + 2) 6 :: .free (w.heap.size + 2) 7 :: .cell (w.heap.size + 1) 0 (.bool (c.o 0)) :: .cell (w.heap.size + 1) 1 (.bool (c.o 1)) :: .cell (w.heap.size + 1) 2 (.bool (c.o 2)) :: .cell (w.heap.size + 1) 3 (.bool (c.o 3)) :: .cell (w.heap.size + 1) 4 (.bool (c.o 4)) :: .cell (w.heap.size + 1) 5 (.bool (c.o 5)) :: .cell (w.heap.size + 1) 6 (.bool (c.o 6)) :: .cell (w.heap.size + 1) 7 (.slice aR c.nr cR) :: .cell (w.heap.size + 1) 8 (.slice aD c.nd cD) :: .free (w.heap.size + 1) 0 :: .free (w.heap.size + 1) 1 :: .free (w.heap.size + 1) 2 :: .free (w.heap.size + 1) 3 :: .free (w.heap.size + 1) 4 :: .free (w.heap.size + 1) 5 :: .free (w.heap.size + 1) 6 :: .free (w.heap.size + 1) 7 :: .free (w.heap.size + 1) 8 :: .cell (w.heap.size) 0 (.bool (c.o 0)) :: .cell (w.heap.size) 1 (.bool (c.o 1)) :: .cell (w.heap.size) 2 (.bool (c.o 2)) :: .cell (w.heap.size) 3 (.bool (c.o 3)) :: .cell (w.heap.size) 4 (.bool (c.o 4)) :: .cell (w.heap.size) 5 (.bool (c.o 5)) :: .cell (w.heap.size) 6 (.bool (c.o 6)) :: .cell (w.heap.size) 7 (.slice aR c.nr cR) :: .cell (w.heap.size) 8 (.slice aD c.nd cD) :: .cell (w.heap.size) 9 (.int .i64 r.k) :: .cell (w.heap.size) 10 (.int .i64 r.m) :: .cell (w.heap.size) 11 (.int .i64 r.d) :: .cell (w.heap.size) 12 (.int .i64 r.q) :: .cell (w.heap.size) 13 (.int .i64 r.o) :: .cell (w.heap.size) 14 (.int .i64 r.s) :: .cell (w.heap.size) 15 (.int .i64 r.f) :: .cell (w.heap.size) 16 (.int .i64 r.t) :: .cell (w.heap.size) 17 (.int .u8 z) :: .cell (w.heap.size) 18 (.int .i64 n) :: .free (w.heap.size) 0 :: .free (w.heap.size) 1 :: .free (w.heap.size) 2 :: .free (w.heap.size) 3 :: .free (w.heap.size) 4 :: .free (w.heap.size) 5 :: .free (w.heap.size) 6 :: .free (w.heap.size) 7 :: .free (w.heap.size) 8 :: .free (w.heap.size) 9 :: .free (w.heap.size) 10 :: .free (w.heap.size) 11 :: .free (w.heap.size) 12 :: .free (w.heap.size) 13 :: .free (w.heap.size) 14 :: .free (w.heap.size) 15 :: .free (w.heap.size) 16 :: .free (w.heap.size) 17 :: .free (w.heap.size) 18 :: calF c aR cR aD cD :: factsVF :: []) w' → Held w (.is (w5.heap.size) 7 :: .cell (w5.heap.size) 0 (.bool (c.o 0)) :: .cell (w5.heap.size) 1 (.bool (c.o 1)) :: .cell (w5.heap.size) 2 (.bool (c.o 2)) :: .cell (w5.heap.size) 3 (.bool (c.o 3)) :: .cell (w5.heap.size) 4 (.bool (c.o 4)) :: .cell (w5.heap.size) 5 (.bool (c.o 5)) :: .cell (w5.heap.size) 6 (.bool (c.o 6)) :: .cell (w5.heap.size) 8 (.slice aD c.nd cD) :: .free (w5.heap.size) 0 :: .free (w5.heap.size) 1 :: .free (w5.heap.size) 2 :: .free (w5.heap.size) 3 :: .free (w5.heap.size) 4 :: .free (w5.heap.size) 5 :: .free (w5.heap.size) 6 :: .free (w5.heap.size) 7 :: .free (w5.heap.size) 8 :: .cell (w.heap.size + 2) 0 (.int .i64 r.k) :: .cell (w.heap.size + 2) 1 (.int .i64 r.m) :: .cell (w.heap.size + 2) 2 (.int .i64 r.d) :: .cell (w.heap.size + 2) 3 (.int .i64 r.q) :: .cell (w.heap.size + 2) 4 (.int .i64 r.o) :: .cell (w.heap.size + 2) 5 (.int .i64 r.s) :: .cell (w.heap.size + 2) 6 (.int .i64 r.f) :: .cell (w.heap.size + 2) 7 (.int .i64 r.t) :: .free (w.heap.size + 2) 0 :: .free (w.heap.size + 2) 1 :: .free (w.heap.size + 2) 2 :: .free (w.heap.size + 2) 3 :: .free (w.heap.size + 2) 4 :: .free (w.heap.size + 2) 5 :: .free (w.heap.size + 2) 6 :: .free (w.heap.size + 2) 7 :: .cell (w.heap.size + 1) 0 (.bool (c.o 0)) :: .cell (w.heap.size + 1) 1 (.bool (c.o 1)) :: .cell (w.heap.size + 1) 2 (.bool (c.o 2)) :: .cell (w.heap.size + 1) 3 (.bool (c.o 3)) :: .cell (w.heap.size + 1) 4 (.bool (c.o 4)) :: .cell (w.heap.size + 1) 5 (.bool (c.o 5)) :: .cell (w.heap.size + 1) 6 (.bool (c.o 6)) :: .cell (w.heap.size + 1) 7 (.slice aR c.nr cR) :: .cell (w.heap.size + 1) 8 (.slice aD c.nd cD) :: .free (w.heap.size + 1) 0 :: .free (w.heap.size + 1) 1 :: .free (w.heap.size + 1) 2 :: .free (w.heap.size + 1) 3 :: .free (w.heap.size + 1) 4 :: .free (w.heap.size + 1) 5 :: .free (w.heap.size + 1) 6 :: .free (w.heap.size + 1) 7 :: .free (w.heap.size + 1) 8 :: .cell (w.heap.size) 0 (.bool (c.o 0)) :: .cell (w.heap.size) 1 (.bool (c.o 1)) :: .cell (w.heap.size) 2 (.bool (c.o 2)) :: .cell (w.heap.size) 3 (.bool (c.o 3)) :: .cell (w.heap.size) 4 (.bool (c.o 4)) :: .cell (w.heap.size) 5 (.bool (c.o 5)) :: .cell (w.heap.size) 6 (.bool (c.o 6)) :: .cell (w.heap.size) 7 (.slice aR c.nr cR) :: .cell (w.heap.size) 8 (.slice aD c.nd cD) :: .cell (w.heap.size) 9 (.int .i64 r.k) :: .cell (w.heap.size) 10 (.int .i64 r.m) :: .cell (w.heap.size) 11 (.int .i64 r.d) :: .cell (w.heap.size) 12 (.int .i64 r.q) :: .cell (w.heap.size) 13 (.int .i64 r.o) :: .cell (w.heap.size) 14 (.int .i64 r.s) :: .cell (w.heap.size) 15 (.int .i64 r.f) :: .cell (w.heap.size) 16 (.int .i64 r.t) :: .cell (w.heap.size) 17 (.int .u8 z) :: .cell (w.heap.size) 18 (.int .i64 n) :: .free (w.heap.size) 0 :: .free (w.heap.size) 1 :: .free (w.heap.size) 2 :: .free (w.heap.size) 3 :: .free (w.heap.size) 4 :: .free (w.heap.size) 5 :: .free (w.heap.size) 6 :: .free (w.heap.size) 7 :: .free (w.heap.size) 8 :: .free (w.heap.size) 9 :: .free (w.heap.size) 10 :: .free (w.heap.size) 11 :: .free (w.heap.size) 12 :: .free (w.heap.size) 13 :: .free (w.heap.size) 14 :: .free (w.heap.size) 15 :: .free (w.heap.size) 16 :: .free (w.heap.size) 17 :: .free (w.heap.size) 18 :: calF c aR cR aD cD :: factsVF :: []) w') := Lib.hid (fun _ h => h.2.2.2.2.2.2.2.2.2.2.2.2.2.2.2.2.2.2.2)
  refine wp_region_held_drew (S := fun w' => w'.cell? ⟨w.heap.size + 1, 0, none⟩ = some (.bool (c.o 0)) ∧ w'.cell? ⟨w.heap.size + 1, 1, none⟩ = some (.bool (c.o 1)) ∧ w'.cell? ⟨w.heap.size + 1, 2, none⟩ = some (.bool (c.o 2)) ∧ w'.cell? ⟨w.heap.size + 1, 3, none⟩ = some (.bool (c.o 3)) ∧ w'.cell? ⟨w.heap.size + 1, 4, none⟩ = some (.bool (c.o 4)) ∧ w'.cell? ⟨w.heap.size + 1, 5, none⟩ = some (.bool (c.o 5)) ∧ w'.cell? ⟨w.heap.size + 1, 6, none⟩ = some (.bool (c.o 6)) ∧ w'.cell? ⟨w.heap.size + 1, 7, none⟩ = some (.slice aR c.nr cR) ∧ w'.cell? ⟨w.heap.size + 1, 8, none⟩ = some (.slice aD c.nd cD) ∧ w'.cell? ⟨w.heap.size + 2, 0, none⟩ = some (.int .i64 r.k) ∧ w'.cell? ⟨w.heap.size + 2, 1, none⟩ = some (.int .i64 r.m) ∧ w'.cell? ⟨w.heap.size + 2, 2, none⟩ = some (.int .i64 r.d) ∧ w'.cell? ⟨w.heap.size + 2, 3, none⟩ = some (.int .i64 r.q) ∧ w'.cell? ⟨w.heap.size + 2, 4, none⟩ = some (.int .i64 r.o) ∧ w'.cell? ⟨w.heap.size + 2, 5, none⟩ = some (.int .i64 r.s) ∧ w'.cell? ⟨w.heap.size + 2, 6, none⟩ = some (.int .i64 r.f) ∧ w'.cell? ⟨w.heap.size + 2, 7, none⟩ = some (.int .i64 r.t) ∧ (w'.cell? ⟨w5.heap.size, 7, none⟩).isSome = true ∧ w'.frozen? ⟨w5.heap.size, 7, none⟩ = false ∧ Held w (.is (w5.heap.size) 7 :: .cell (w5.heap.size) 0 (.bool (c.o 0)) :: .cell (w5.heap.size) 1 (.bool (c.o 1)) :: .cell (w5.heap.size) 2 (.bool (c.o 2)) :: .cell (w5.heap.size) 3 (.bool (c.o 3)) :: .cell (w5.heap.size) 4 (.bool (c.o 4)) :: .cell (w5.heap.size) 5 (.bool (c.o 5)) :: .cell (w5.heap.size) 6 (.bool (c.o 6)) :: .cell (w5.heap.size) 8 (.slice aD c.nd cD) :: .free (w5.heap.size) 0 :: .free (w5.heap.size) 1 :: .free (w5.heap.size) 2 :: .free (w5.heap.size) 3 :: .free (w5.heap.size) 4 :: .free (w5.heap.size) 5 :: .free (w5.heap.size) 6 :: .free (w5.heap.size) 7 :: .free (w5.heap.size) 8 :: .cell (w.heap.size + 2) 0 (.int .i64 r.k) :: .cell (w.heap.size + 2) 1 (.int .i64 r.m) :: .cell (w.heap.size + 2) 2 (.int .i64 r.d) :: .cell (w.heap.size + 2) 3 (.int .i64 r.q) :: .cell (w.heap.size + 2) 4 (.int .i64 r.o) :: .cell (w.heap.size + 2) 5 (.int .i64 r.s) :: .cell (w.heap.size + 2) 6 (.int .i64 r.f) :: .cell (w.heap.size + 2) 7 (.int .i64 r.t) :: .free (w.heap.size + 2) 0 :: .free (w.heap.size + 2) 1 :: .free (w.heap.size + 2) 2 :: .free (w.heap.size + 2) 3 :: .free (w.heap.size + 2) 4 :: .free (w.heap.size + 2) 5 :: .free (w.heap.size + 2) 6 :: .free (w.heap.size + 2) 7 :: .cell (w.heap.size + 1) 0 (.bool (c.o 0)) :: .cell (w.heap.size + 1) 1 (.bool (c.o 1)) :: .cell (w.heap.size + 1) 2 (.bool (c.o 2)) :: .cell (w.heap.size + 1) 3 (.bool (c.o 3)) :: .cell (w.heap.size + 1) 4 (.bool (c.o 4)) :: .cell (w.heap.size + 1) 5 (.bool (c.o 5)) :: .cell (w.heap.size + 1) 6 (.bool (c.o 6)) :: .cell (w.heap.size + 1) 7 (.slice aR c.nr cR) :: .cell (w.heap.size + 1) 8 (.slice aD c.nd cD) :: .free (w.heap.size + 1) 0 :: .free (w.heap.size + 1) 1 :: .free (w.heap.size + 1) 2 :: .free (w.heap.size + 1) 3 :: .free (w.heap.size + 1) 4 :: .free (w.heap.size + 1) 5 :: .free (w.heap.size + 1) 6 :: .free (w.heap.size + 1) 7 :: .free (w.heap.size + 1) 8 :: .cell (w.heap.size) 0 (.bool (c.o 0)) :: .cell (w.heap.size) 1 (.bool (c.o 1)) :: .cell (w.heap.size) 2 (.bool (c.o 2)) :: .cell (w.heap.size) 3 (.bool (c.o 3)) :: .cell (w.heap.size) 4 (.bool (c.o 4)) :: .cell (w.heap.size) 5 (.bool (c.o 5)) :: .cell (w.heap.size) 6 (.bool (c.o 6)) :: .cell (w.heap.size) 7 (.slice aR c.nr cR) :: .cell (w.heap.size) 8 (.slice aD c.nd cD) :: .cell (w.heap.size) 9 (.int .i64 r.k) :: .cell (w.heap.size) 10 (.int .i64 r.m) :: .cell (w.heap.size) 11 (.int .i64 r.d) :: .cell (w.heap.size) 12 (.int .i64 r.q) :: .cell (w.heap.size) 13 (.int .i64 r.o) :: .cell (w.heap.size) 14 (.int .i64 r.s) :: .cell (w.heap.size) 15 (.int .i64 r.f) :: .cell (w.heap.size) 16 (.int .i64 r.t) :: .cell (w.heap.size) 17 (.int .u8 z) :: .cell (w.heap.size) 18 (.int .i64 n) :: .free (w.heap.size) 0 :: .free (w.heap.size) 1 :: .free (w.heap.size) 2 :: .free (w.heap.size) 3 :: .free (w.heap.size) 4 :: .free (w.heap.size) 5 :: .free (w.heap.size) 6 :: .free (w.heap.size) 7 :: .free (w.heap.size) 8 :: .free (w.heap.size) 9 :: .free (w.heap.size) 10 :: .free (w.heap.size) 11 :: .free (w.heap.size) 12 :: .free (w.heap.size) 13 :: .free (w.heap.size) 14 :: .free (w.heap.size) 15 :: .free (w.heap.size) 16 :: .free (w.heap.size) 17 :: .free (w.heap.size) 18 :: calF c aR cR aD cD :: factsVF :: []) w') (by kernel_rfl) (KS.out _ H.drew) (fun hHeld => ?_)
  clear H
  refine wpAnyH_take (i := 1) (oi := ⟨some 42, _, _, _, _, _⟩) (v := ?_) rfl (by kernel_rfl) (by kernel_rfl) (by kernel_rfl) (fun _ _ _ h => h) (Or.inl ⟨by rfl, ?_⟩) (by assumption) ?_
  rotate_left
  · intro w hSw; (try dsimp only at hSw); go_simp; try with_reducible rfl
  simp only [Act.put, List.setIfInBounds_toArray, List.set_cons_zero, List.set_cons_succ]
  refine wpAnyH_take (i := 2) (oi := ⟨some 43, _, _, _, _, _⟩) (v := ?_) rfl (by kernel_rfl) (by kernel_rfl) (by kernel_rfl) (fun _ _ _ h => h) (Or.inl ⟨by rfl, ?_⟩) (by assumption) ?_
  rotate_left
  · intro w hSw; (try dsimp only at hSw); go_simp; try with_reducible rfl
  simp only [Act.put, List.setIfInBounds_toArray, List.set_cons_zero, List.set_cons_succ]
  refine wpAnyH_take (i := 4) (oi := ⟨some 45, _, _, _, _, _⟩) (v := ?_) rfl (by kernel_rfl) (by kernel_rfl) (by kernel_rfl) (fun _ _ _ h => h) (Or.inl ⟨by rfl, ?_⟩) (by assumption) ?_
  rotate_left
  · intro w hSw; (try dsimp only at hSw); go_simp; try with_reducible rfl
  simp only [Act.put, List.setIfInBounds_toArray, List.set_cons_zero, List.set_cons_succ]
  have H := KH.out _ hHeld
  clear hHeld
  refine capA (fun G A W0 hG hA hW => ?_)
  rw [← hW] at H
  have HG := Lib.hid hG
  have HA := Lib.hid hA
  clear hG hA hW
  obtain ⟨i0, hi, hz0, hz1, hz2⟩ := info_parts infoRule
  have RC := Lib.hid (row_rules (H.cal (mt32 (mt32 (mt8 (mt8 (mt8 (mt1 (mt1 mh)))))))).1)
  have H0 := Lib.hid H
  clear H
  have Z111 : Hid (∀ (W : World) (g0 : Nat) (v1 : Value) (g1 : Nat), Below W0.heap.size W0 W → W.ownsRow W0.heap.size 51 8 v1 c.nr (rl c.R c.nr) → Row13 W 8 (some ⟨g1, 0, none⟩) 1 (rc r) → g1 < W.heap.size → G 3 #[true, true, true, true, true, true, false, false, false] (Act.put (Act.put (Act.put A (some 41) (.slice (some ⟨g0, 0, none⟩) 0 0)) (some 44) v1) (some 46) (.slice (some ⟨g1, 0, none⟩) 1 1)) W) := Lib.hid (by
    intro W g0 v1 g1 B o1 rr lg
    have H : Held w (.is (w5.heap.size) 7 :: .cell (w5.heap.size) 0 (.bool (c.o 0)) :: .cell (w5.heap.size) 1 (.bool (c.o 1)) :: .cell (w5.heap.size) 2 (.bool (c.o 2)) :: .cell (w5.heap.size) 3 (.bool (c.o 3)) :: .cell (w5.heap.size) 4 (.bool (c.o 4)) :: .cell (w5.heap.size) 5 (.bool (c.o 5)) :: .cell (w5.heap.size) 6 (.bool (c.o 6)) :: .cell (w5.heap.size) 8 (.slice aD c.nd cD) :: .free (w5.heap.size) 0 :: .free (w5.heap.size) 1 :: .free (w5.heap.size) 2 :: .free (w5.heap.size) 3 :: .free (w5.heap.size) 4 :: .free (w5.heap.size) 5 :: .free (w5.heap.size) 6 :: .free (w5.heap.size) 7 :: .free (w5.heap.size) 8 :: .cell (w.heap.size + 2) 0 (.int .i64 r.k) :: .cell (w.heap.size + 2) 1 (.int .i64 r.m) :: .cell (w.heap.size + 2) 2 (.int .i64 r.d) :: .cell (w.heap.size + 2) 3 (.int .i64 r.q) :: .cell (w.heap.size + 2) 4 (.int .i64 r.o) :: .cell (w.heap.size + 2) 5 (.int .i64 r.s) :: .cell (w.heap.size + 2) 6 (.int .i64 r.f) :: .cell (w.heap.size + 2) 7 (.int .i64 r.t) :: .free (w.heap.size + 2) 0 :: .free (w.heap.size + 2) 1 :: .free (w.heap.size + 2) 2 :: .free (w.heap.size + 2) 3 :: .free (w.heap.size + 2) 4 :: .free (w.heap.size + 2) 5 :: .free (w.heap.size + 2) 6 :: .free (w.heap.size + 2) 7 :: .cell (w.heap.size + 1) 0 (.bool (c.o 0)) :: .cell (w.heap.size + 1) 1 (.bool (c.o 1)) :: .cell (w.heap.size + 1) 2 (.bool (c.o 2)) :: .cell (w.heap.size + 1) 3 (.bool (c.o 3)) :: .cell (w.heap.size + 1) 4 (.bool (c.o 4)) :: .cell (w.heap.size + 1) 5 (.bool (c.o 5)) :: .cell (w.heap.size + 1) 6 (.bool (c.o 6)) :: .cell (w.heap.size + 1) 7 (.slice aR c.nr cR) :: .cell (w.heap.size + 1) 8 (.slice aD c.nd cD) :: .free (w.heap.size + 1) 0 :: .free (w.heap.size + 1) 1 :: .free (w.heap.size + 1) 2 :: .free (w.heap.size + 1) 3 :: .free (w.heap.size + 1) 4 :: .free (w.heap.size + 1) 5 :: .free (w.heap.size + 1) 6 :: .free (w.heap.size + 1) 7 :: .free (w.heap.size + 1) 8 :: .cell (w.heap.size) 0 (.bool (c.o 0)) :: .cell (w.heap.size) 1 (.bool (c.o 1)) :: .cell (w.heap.size) 2 (.bool (c.o 2)) :: .cell (w.heap.size) 3 (.bool (c.o 3)) :: .cell (w.heap.size) 4 (.bool (c.o 4)) :: .cell (w.heap.size) 5 (.bool (c.o 5)) :: .cell (w.heap.size) 6 (.bool (c.o 6)) :: .cell (w.heap.size) 7 (.slice aR c.nr cR) :: .cell (w.heap.size) 8 (.slice aD c.nd cD) :: .cell (w.heap.size) 9 (.int .i64 r.k) :: .cell (w.heap.size) 10 (.int .i64 r.m) :: .cell (w.heap.size) 11 (.int .i64 r.d) :: .cell (w.heap.size) 12 (.int .i64 r.q) :: .cell (w.heap.size) 13 (.int .i64 r.o) :: .cell (w.heap.size) 14 (.int .i64 r.s) :: .cell (w.heap.size) 15 (.int .i64 r.f) :: .cell (w.heap.size) 16 (.int .i64 r.t) :: .cell (w.heap.size) 17 (.int .u8 z) :: .cell (w.heap.size) 18 (.int .i64 n) :: .free (w.heap.size) 0 :: .free (w.heap.size) 1 :: .free (w.heap.size) 2 :: .free (w.heap.size) 3 :: .free (w.heap.size) 4 :: .free (w.heap.size) 5 :: .free (w.heap.size) 6 :: .free (w.heap.size) 7 :: .free (w.heap.size) 8 :: .free (w.heap.size) 9 :: .free (w.heap.size) 10 :: .free (w.heap.size) 11 :: .free (w.heap.size) 12 :: .free (w.heap.size) 13 :: .free (w.heap.size) 14 :: .free (w.heap.size) 15 :: .free (w.heap.size) 16 :: .free (w.heap.size) 17 :: .free (w.heap.size) 18 :: calF c aR cR aD cD :: factsVF :: []) W := H0.out.below B
    rw [HG.out, HA.out]
    (try simp only [Act.put, List.setIfInBounds_toArray, List.set_cons_zero, List.set_cons_succ])
    refine wpAnyH_ready (rs := [6]) (by kernel_rfl) (by simp) ?_
    refine AllReadyH.cons (o := ⟨some 47, _, _, _, _, _⟩) rfl (fun KK hK => ?_) AllReadyH.nil
    obtain ⟨v2, w2, hr, ho, hg⟩ := app13 W0.heap.size 23 23 51 i0 (.agg #[.int .i64 0, .int .i64 0, .int .i64 0, .int .i64 0, .int .i64 0, .int .i64 0, .int .i64 0, .int .i64 0]) 8 64 Tryd.underlying23 hi hz0 hz1 hz2 rfl (by decide) _ _ _ o1 (some ⟨g1, 0, none⟩) 1 1 (rc r) rr (by omega) (by decide) B.size
    rw [rl_more] at ho
    have B2 := B.trans (grown_own B.size o1 hg)
    obtain ⟨aN, cN, rfl, hN⟩ := own_rules ho
    have lN : ∀ p, aN = some p → W0.heap.size ≤ p.block := fun p hp => by subst hp; exact (World.ownsRow.lt ho p.block rfl).1
    refine Lib.wp_append_run _ (.tmp 44) (.tmp 46) 23 23 rfl _ _ rfl rfl _ _ hr ?_
    have H2 := H0.out.below B2
    refine hK.out _ _ (KS.out _ H2) (fun hHeld => ?_)
    clear hK KK H B
    (try simp only [Act.put, List.setIfInBounds_toArray, List.set_cons_zero, List.set_cons_succ])
    refine wpAnyH_take (i := 7) (oi := ⟨some 48, _, _, _, _, _⟩) (v := ?_) rfl (by kernel_rfl) (by kernel_rfl) (by kernel_rfl) (fun _ _ _ h => h) (Or.inl ⟨by rfl, ?_⟩) (by assumption) ?_
    rotate_left
    · intro w hSw; (try dsimp only at hSw); go_simp; try with_reducible rfl
    simp only [Act.put, List.setIfInBounds_toArray, List.set_cons_zero, List.set_cons_succ]
    clear hHeld
    have s1 := H2.all (.is (w5.heap.size) 7) mh
    have s2 := H2.frozen (w5.heap.size) 7 (mt8 (mt8 mh))
    obtain ⟨x7, s3⟩ := Option.isSome_iff_exists.1 s1
    clear s1
    have ld := H0.out.lt (w5.heap.size) 0 (.bool (c.o 0)) (mt1 mh)
    have H3 := H2.setc (w5.heap.size) 7 (.slice aN (c.nr + 1) cN) (by omega) (fun f hf => by
      simp only [List.mem_cons, List.not_mem_nil, or_false] at hf
      rcases hf with rfl | rfl | rfl | rfl | rfl | rfl | rfl | rfl | rfl | rfl | rfl | rfl | rfl | rfl | rfl | rfl | rfl | rfl | rfl | rfl | rfl | rfl | rfl | rfl | rfl | rfl | rfl | rfl | rfl | rfl | rfl | rfl | rfl | rfl | rfl | rfl | rfl | rfl | rfl | rfl | rfl | rfl | rfl | rfl | rfl | rfl | rfl | rfl | rfl | rfl | rfl | rfl | rfl | rfl | rfl | rfl | rfl | rfl | rfl | rfl | rfl | rfl | rfl | rfl | rfl | rfl | rfl | rfl | rfl | rfl | rfl | rfl | rfl | rfl | rfl | rfl | rfl | rfl | rfl | rfl | rfl | rfl | rfl | rfl | rfl | rfl | rfl | rfl | rfl | rfl | rfl | rfl
      all_goals first
        | exact Or.inl trivial
        | exact Or.inl (Or.inr (by decide))
        | exact Or.inl (Or.inl (by omega))
        | exact Or.inr HL0.out.1
        | exact Or.inr HL0.out.2)
    have hN2 := RulesAt.set1 hN (w5.heap.size) 7 (.slice aN (c.nr + 1) cN) (fun p hp => Nat.ne_of_gt (Nat.lt_of_lt_of_le ld (lN p hp)))
    have q7 := World.cell?_setCell_same' w2 ⟨w5.heap.size, 7, none⟩ (.slice aN (c.nr + 1) cN) (by rw [s3]; rfl)
    have h3 := Lib.hid H3
    have hn2 := Lib.hid hN2
    have hq7 := Lib.hid q7
    clear H3 hN2 q7 hN ho hg hr
    refine wpAnyH_ready (rs := [8]) (by kernel_rfl) (by simp) ?_
    refine AllReadyH.cons (o := ⟨none, _, _, _, _, _⟩) rfl (fun KK hK => ?_) AllReadyH.nil
    go_wp2_with fail
    refine hK.out _ _ (KS.out _ h3.out) (fun _ => ?_)
    clear hK KK s2 s3 H2
    (try simp only [Act.put, List.setIfInBounds_toArray, List.set_cons_zero, List.set_cons_succ])
    refine wpAnyH_done (by kernel_rfl) ?_ _
    replace h3 := h3.out
    replace hn2 := hn2.out
    replace hq7 := hq7.out
    generalize World.setCell w2 _ _ = W9 at h3 hn2 hq7 ⊢
    have H := (h3.add (f := .cell (w5.heap.size) 7 (.slice aN (c.nr + 1) cN)) hq7).add (f := rulesF aN (more c.R c.nr r) (c.nr + 1) cN) hn2
    clear h3 hn2 hq7
    rcases K7.out with hk | hk | hk | hk | hk | hk | hk
    · skip
      have cc0 := H.cell (w.heap.size + 1) 0 (.bool (c.o 0)) (mt32 (mt1 (mt1 (mt1 (mt1 mh)))))
      have cc1 := H.cell (w.heap.size + 1) 1 (.bool (c.o 1)) (mt32 (mt1 (mt1 (mt1 (mt1 (mt1 mh))))))
      have cc2 := H.cell (w.heap.size + 1) 2 (.bool (c.o 2)) (mt32 (mt1 (mt1 (mt1 (mt1 (mt1 (mt1 mh)))))))
      have cc3 := H.cell (w.heap.size + 1) 3 (.bool (c.o 3)) (mt32 (mt1 (mt1 (mt1 (mt1 (mt1 (mt1 (mt1 mh))))))))
      have cc4 := H.cell (w.heap.size + 1) 4 (.bool (c.o 4)) (mt32 (mt8 mh))
      have cc5 := H.cell (w.heap.size + 1) 5 (.bool (c.o 5)) (mt32 (mt8 (mt1 mh)))
      have cc6 := H.cell (w.heap.size + 1) 6 (.bool (c.o 6)) (mt32 (mt8 (mt1 (mt1 mh))))
      have cc7 := H.cell (w.heap.size + 1) 7 (.slice aR c.nr cR) (mt32 (mt8 (mt1 (mt1 (mt1 mh)))))
      have cc8 := H.cell (w.heap.size + 1) 8 (.slice aD c.nd cD) (mt32 (mt8 (mt1 (mt1 (mt1 (mt1 mh))))))
      have lc := H.lt (w.heap.size + 1) 0 (.bool (c.o 0)) (mt32 (mt1 (mt1 (mt1 (mt1 mh)))))
      go_wp2_with fail
      clear cc0 cc1 cc2 cc3 cc4 cc5 cc6 cc7 cc8 lc
      replace H := (H.box_9 (W9.heap.size) (.bool true) (.bool (c.o 1)) (.bool (c.o 2)) (.bool (c.o 3)) (.bool (c.o 4)) (.bool (c.o 5)) (.bool (c.o 6)) (.slice aR c.nr cR) (.slice aD c.nd cD) 26 rfl)
      (with_reducible refine (K.is c aR cR aD cD n true _ (H.factsV (mt32 (mt32 (mt32 (mt8 (mt1 (mt1 (mt1 (mt1 (mt1 (mt1 (mt1 mh)))))))))))) MA.out (H.cal (mt32 (mt32 (mt32 (mt8 (mt1 (mt1 (mt1 (mt1 (mt1 (mt1 mh))))))))))) ⟨fun _ => HP.out, fun _ => rfl⟩).mono ?_)
      rintro e w6 ⟨rfl, hb⟩
      replace H := H.below hb
      clear hb
      have cd0 := H.cell (w5.heap.size) 0 (.bool (c.o 0)) (mt8 (mt8 (mt1 (mt1 (mt1 (mt1 (mt1 mh)))))))
      have cd1 := H.cell (w5.heap.size) 1 (.bool (c.o 1)) (mt8 (mt8 (mt1 (mt1 (mt1 (mt1 (mt1 (mt1 mh))))))))
      have cd2 := H.cell (w5.heap.size) 2 (.bool (c.o 2)) (mt8 (mt8 (mt1 (mt1 (mt1 (mt1 (mt1 (mt1 (mt1 mh)))))))))
      have cd3 := H.cell (w5.heap.size) 3 (.bool (c.o 3)) (mt8 (mt8 (mt8 mh)))
      have cd4 := H.cell (w5.heap.size) 4 (.bool (c.o 4)) (mt8 (mt8 (mt8 (mt1 mh))))
      have cd5 := H.cell (w5.heap.size) 5 (.bool (c.o 5)) (mt8 (mt8 (mt8 (mt1 (mt1 mh)))))
      have cd6 := H.cell (w5.heap.size) 6 (.bool (c.o 6)) (mt8 (mt8 (mt8 (mt1 (mt1 (mt1 mh))))))
      have cd7 := H.cell (w5.heap.size) 7 (.slice aN (c.nr + 1) cN) (mt8 (mt8 (mt1 (mt1 (mt1 mh)))))
      have cd8 := H.cell (w5.heap.size) 8 (.slice aD c.nd cD) (mt8 (mt8 (mt8 (mt1 (mt1 (mt1 (mt1 mh)))))))
      have ld := H.lt (w5.heap.size) 0 (.bool (c.o 0)) (mt8 (mt8 (mt1 (mt1 (mt1 (mt1 (mt1 mh)))))))
      go_wp2_with fail
      clear cd0 cd1 cd2 cd3 cd4 cd5 cd6 cd7 cd8 ld
      (with_reducible refine (pis K c r aN cN aD cD n false _ (H.factsV (mt32 (mt32 (mt32 (mt8 (mt1 (mt1 (mt1 (mt1 (mt1 (mt1 (mt1 mh)))))))))))) MP.out (H.rules (mt8 (mt8 (mt1 (mt1 mh))))) (cal_d13 (H.cal (mt32 (mt32 (mt32 (mt8 (mt1 (mt1 (mt1 (mt1 (mt1 (mt1 mh)))))))))))) ⟨fun g => absurd g (by decide), fun g => absurd g HQ.out⟩).mono ?_)
      rintro e w7 ⟨rfl, hb⟩
      replace H := H.below hb
      clear hb
      have cr0 := H.cell (w.heap.size + 2) 0 (.int .i64 r.k) (mt32 (mt1 (mt1 (mt1 (mt1 (mt1 (mt1 mh)))))))
      have cr1 := H.cell (w.heap.size + 2) 1 (.int .i64 r.m) (mt32 (mt1 (mt1 (mt1 (mt1 (mt1 (mt1 (mt1 mh))))))))
      have cr2 := H.cell (w.heap.size + 2) 2 (.int .i64 r.d) (mt32 (mt8 mh))
      have cr3 := H.cell (w.heap.size + 2) 3 (.int .i64 r.q) (mt32 (mt8 (mt1 mh)))
      have cr4 := H.cell (w.heap.size + 2) 4 (.int .i64 r.o) (mt32 (mt8 (mt1 (mt1 mh))))
      have cr5 := H.cell (w.heap.size + 2) 5 (.int .i64 r.s) (mt32 (mt8 (mt1 (mt1 (mt1 mh)))))
      have cr6 := H.cell (w.heap.size + 2) 6 (.int .i64 r.f) (mt32 (mt8 (mt1 (mt1 (mt1 (mt1 mh))))))
      have cr7 := H.cell (w.heap.size + 2) 7 (.int .i64 r.t) (mt32 (mt8 (mt1 (mt1 (mt1 (mt1 (mt1 mh)))))))
      have lr := H.lt (w.heap.size + 2) 0 (.int .i64 r.k) (mt32 (mt1 (mt1 (mt1 (mt1 (mt1 (mt1 mh)))))))
      go_wp2_with fail
      clear cr0 cr1 cr2 cr3 cr4 cr5 cr6 cr7 lr
      (with_reducible refine (ruis_any r.k r.m r.d r.q r.o r.s r.f r.t n true _ MR.out ⟨fun _ => HX.out, fun _ => rfl⟩).mono ?_)
      rintro e w8 ⟨rfl, hb⟩
      replace H := H.below hb
      clear hb
      have cf0 := H.cell (W9.heap.size) 0 (.bool true) mh
      have cf1 := H.cell (W9.heap.size) 1 (.bool (c.o 1)) (mt1 mh)
      have cf2 := H.cell (W9.heap.size) 2 (.bool (c.o 2)) (mt1 (mt1 mh))
      have cf3 := H.cell (W9.heap.size) 3 (.bool (c.o 3)) (mt1 (mt1 (mt1 mh)))
      have cf4 := H.cell (W9.heap.size) 4 (.bool (c.o 4)) (mt1 (mt1 (mt1 (mt1 mh))))
      have cf5 := H.cell (W9.heap.size) 5 (.bool (c.o 5)) (mt1 (mt1 (mt1 (mt1 (mt1 mh)))))
      have cf6 := H.cell (W9.heap.size) 6 (.bool (c.o 6)) (mt1 (mt1 (mt1 (mt1 (mt1 (mt1 mh))))))
      have cf7 := H.cell (W9.heap.size) 7 (.slice aR c.nr cR) (mt1 (mt1 (mt1 (mt1 (mt1 (mt1 (mt1 mh)))))))
      have cf8 := H.cell (W9.heap.size) 8 (.slice aD c.nd cD) (mt8 mh)
      have lf := H.lt (W9.heap.size) 0 (.bool true) mh
      go_wp2_with fail
      clear cf0 cf1 cf2 cf3 cf4 cf5 cf6 cf7 cf8 lf
      (with_reducible refine (rof0 c aR cR aD cD u0 _ HZ.out (H.cal (mt32 (mt32 (mt32 (mt8 (mt1 (mt1 (mt1 (mt1 (mt1 (mt1 mh))))))))))) HU0.out).mono ?_)
      rintro e w9 ⟨rfl, hb⟩
      replace H := H.below hb
      clear hb
      cases u0 with
      | false =>
        go_wp2_with fail
        go_ret
        exact ⟨rfl, H.old⟩
      | true =>
        have cf0 := H.cell (W9.heap.size) 0 (.bool true) mh
        have cf1 := H.cell (W9.heap.size) 1 (.bool (c.o 1)) (mt1 mh)
        have cf2 := H.cell (W9.heap.size) 2 (.bool (c.o 2)) (mt1 (mt1 mh))
        have cf3 := H.cell (W9.heap.size) 3 (.bool (c.o 3)) (mt1 (mt1 (mt1 mh)))
        have cf4 := H.cell (W9.heap.size) 4 (.bool (c.o 4)) (mt1 (mt1 (mt1 (mt1 mh))))
        have cf5 := H.cell (W9.heap.size) 5 (.bool (c.o 5)) (mt1 (mt1 (mt1 (mt1 (mt1 mh)))))
        have cf6 := H.cell (W9.heap.size) 6 (.bool (c.o 6)) (mt1 (mt1 (mt1 (mt1 (mt1 (mt1 mh))))))
        have cf7 := H.cell (W9.heap.size) 7 (.slice aR c.nr cR) (mt1 (mt1 (mt1 (mt1 (mt1 (mt1 (mt1 mh)))))))
        have cf8 := H.cell (W9.heap.size) 8 (.slice aD c.nd cD) (mt8 mh)
        have lf := H.lt (W9.heap.size) 0 (.bool true) mh
        go_wp2_with fail
        clear cf0 cf1 cf2 cf3 cf4 cf5 cf6 cf7 cf8 lf
        (with_reducible refine (kof0 K c aR cR aD cD n ((v : Int) != 0) _ (H.factsV (mt32 (mt32 (mt32 (mt8 (mt1 (mt1 (mt1 (mt1 (mt1 (mt1 (mt1 mh)))))))))))) (HU0.out.1 (by first | rfl | trivial)) (H.cal (mt32 (mt32 (mt32 (mt8 (mt1 (mt1 (mt1 (mt1 (mt1 (mt1 mh))))))))))) (HW0.out)).mono ?_)
        rintro e w10 ⟨rfl, hb⟩
        replace H := H.below hb
        clear hb
        go_wp2_with fail
        (with_reducible refine (rweek_is n v _ HV.out).mono ?_)
        rintro e w11 ⟨rfl, hb⟩
        replace H := H.below hb
        clear hb
        go_wp2_with fail
        go_ret
        exact ⟨rfl, H.old⟩
    · skip
      have cc0 := H.cell (w.heap.size + 1) 0 (.bool (c.o 0)) (mt32 (mt1 (mt1 (mt1 (mt1 mh)))))
      have cc1 := H.cell (w.heap.size + 1) 1 (.bool (c.o 1)) (mt32 (mt1 (mt1 (mt1 (mt1 (mt1 mh))))))
      have cc2 := H.cell (w.heap.size + 1) 2 (.bool (c.o 2)) (mt32 (mt1 (mt1 (mt1 (mt1 (mt1 (mt1 mh)))))))
      have cc3 := H.cell (w.heap.size + 1) 3 (.bool (c.o 3)) (mt32 (mt1 (mt1 (mt1 (mt1 (mt1 (mt1 (mt1 mh))))))))
      have cc4 := H.cell (w.heap.size + 1) 4 (.bool (c.o 4)) (mt32 (mt8 mh))
      have cc5 := H.cell (w.heap.size + 1) 5 (.bool (c.o 5)) (mt32 (mt8 (mt1 mh)))
      have cc6 := H.cell (w.heap.size + 1) 6 (.bool (c.o 6)) (mt32 (mt8 (mt1 (mt1 mh))))
      have cc7 := H.cell (w.heap.size + 1) 7 (.slice aR c.nr cR) (mt32 (mt8 (mt1 (mt1 (mt1 mh)))))
      have cc8 := H.cell (w.heap.size + 1) 8 (.slice aD c.nd cD) (mt32 (mt8 (mt1 (mt1 (mt1 (mt1 mh))))))
      have lc := H.lt (w.heap.size + 1) 0 (.bool (c.o 0)) (mt32 (mt1 (mt1 (mt1 (mt1 mh)))))
      go_wp2_with fail
      clear cc0 cc1 cc2 cc3 cc4 cc5 cc6 cc7 cc8 lc
      replace H := (H.box_9 (W9.heap.size) (.bool (c.o 0)) (.bool true) (.bool (c.o 2)) (.bool (c.o 3)) (.bool (c.o 4)) (.bool (c.o 5)) (.bool (c.o 6)) (.slice aR c.nr cR) (.slice aD c.nd cD) 26 rfl)
      (with_reducible refine (K.is c aR cR aD cD n true _ (H.factsV (mt32 (mt32 (mt32 (mt8 (mt1 (mt1 (mt1 (mt1 (mt1 (mt1 (mt1 mh)))))))))))) MA.out (H.cal (mt32 (mt32 (mt32 (mt8 (mt1 (mt1 (mt1 (mt1 (mt1 (mt1 mh))))))))))) ⟨fun _ => HP.out, fun _ => rfl⟩).mono ?_)
      rintro e w12 ⟨rfl, hb⟩
      replace H := H.below hb
      clear hb
      have cd0 := H.cell (w5.heap.size) 0 (.bool (c.o 0)) (mt8 (mt8 (mt1 (mt1 (mt1 (mt1 (mt1 mh)))))))
      have cd1 := H.cell (w5.heap.size) 1 (.bool (c.o 1)) (mt8 (mt8 (mt1 (mt1 (mt1 (mt1 (mt1 (mt1 mh))))))))
      have cd2 := H.cell (w5.heap.size) 2 (.bool (c.o 2)) (mt8 (mt8 (mt1 (mt1 (mt1 (mt1 (mt1 (mt1 (mt1 mh)))))))))
      have cd3 := H.cell (w5.heap.size) 3 (.bool (c.o 3)) (mt8 (mt8 (mt8 mh)))
      have cd4 := H.cell (w5.heap.size) 4 (.bool (c.o 4)) (mt8 (mt8 (mt8 (mt1 mh))))
      have cd5 := H.cell (w5.heap.size) 5 (.bool (c.o 5)) (mt8 (mt8 (mt8 (mt1 (mt1 mh)))))
      have cd6 := H.cell (w5.heap.size) 6 (.bool (c.o 6)) (mt8 (mt8 (mt8 (mt1 (mt1 (mt1 mh))))))
      have cd7 := H.cell (w5.heap.size) 7 (.slice aN (c.nr + 1) cN) (mt8 (mt8 (mt1 (mt1 (mt1 mh)))))
      have cd8 := H.cell (w5.heap.size) 8 (.slice aD c.nd cD) (mt8 (mt8 (mt8 (mt1 (mt1 (mt1 (mt1 mh)))))))
      have ld := H.lt (w5.heap.size) 0 (.bool (c.o 0)) (mt8 (mt8 (mt1 (mt1 (mt1 (mt1 (mt1 mh)))))))
      go_wp2_with fail
      clear cd0 cd1 cd2 cd3 cd4 cd5 cd6 cd7 cd8 ld
      (with_reducible refine (pis K c r aN cN aD cD n false _ (H.factsV (mt32 (mt32 (mt32 (mt8 (mt1 (mt1 (mt1 (mt1 (mt1 (mt1 (mt1 mh)))))))))))) MP.out (H.rules (mt8 (mt8 (mt1 (mt1 mh))))) (cal_d13 (H.cal (mt32 (mt32 (mt32 (mt8 (mt1 (mt1 (mt1 (mt1 (mt1 (mt1 mh)))))))))))) ⟨fun g => absurd g (by decide), fun g => absurd g HQ.out⟩).mono ?_)
      rintro e w13 ⟨rfl, hb⟩
      replace H := H.below hb
      clear hb
      have cr0 := H.cell (w.heap.size + 2) 0 (.int .i64 r.k) (mt32 (mt1 (mt1 (mt1 (mt1 (mt1 (mt1 mh)))))))
      have cr1 := H.cell (w.heap.size + 2) 1 (.int .i64 r.m) (mt32 (mt1 (mt1 (mt1 (mt1 (mt1 (mt1 (mt1 mh))))))))
      have cr2 := H.cell (w.heap.size + 2) 2 (.int .i64 r.d) (mt32 (mt8 mh))
      have cr3 := H.cell (w.heap.size + 2) 3 (.int .i64 r.q) (mt32 (mt8 (mt1 mh)))
      have cr4 := H.cell (w.heap.size + 2) 4 (.int .i64 r.o) (mt32 (mt8 (mt1 (mt1 mh))))
      have cr5 := H.cell (w.heap.size + 2) 5 (.int .i64 r.s) (mt32 (mt8 (mt1 (mt1 (mt1 mh)))))
      have cr6 := H.cell (w.heap.size + 2) 6 (.int .i64 r.f) (mt32 (mt8 (mt1 (mt1 (mt1 (mt1 mh))))))
      have cr7 := H.cell (w.heap.size + 2) 7 (.int .i64 r.t) (mt32 (mt8 (mt1 (mt1 (mt1 (mt1 (mt1 mh)))))))
      have lr := H.lt (w.heap.size + 2) 0 (.int .i64 r.k) (mt32 (mt1 (mt1 (mt1 (mt1 (mt1 (mt1 mh)))))))
      go_wp2_with fail
      clear cr0 cr1 cr2 cr3 cr4 cr5 cr6 cr7 lr
      (with_reducible refine (ruis_any r.k r.m r.d r.q r.o r.s r.f r.t n true _ MR.out ⟨fun _ => HX.out, fun _ => rfl⟩).mono ?_)
      rintro e w14 ⟨rfl, hb⟩
      replace H := H.below hb
      clear hb
      have cf0 := H.cell (W9.heap.size) 0 (.bool (c.o 0)) mh
      have cf1 := H.cell (W9.heap.size) 1 (.bool true) (mt1 mh)
      have cf2 := H.cell (W9.heap.size) 2 (.bool (c.o 2)) (mt1 (mt1 mh))
      have cf3 := H.cell (W9.heap.size) 3 (.bool (c.o 3)) (mt1 (mt1 (mt1 mh)))
      have cf4 := H.cell (W9.heap.size) 4 (.bool (c.o 4)) (mt1 (mt1 (mt1 (mt1 mh))))
      have cf5 := H.cell (W9.heap.size) 5 (.bool (c.o 5)) (mt1 (mt1 (mt1 (mt1 (mt1 mh)))))
      have cf6 := H.cell (W9.heap.size) 6 (.bool (c.o 6)) (mt1 (mt1 (mt1 (mt1 (mt1 (mt1 mh))))))
      have cf7 := H.cell (W9.heap.size) 7 (.slice aR c.nr cR) (mt1 (mt1 (mt1 (mt1 (mt1 (mt1 (mt1 mh)))))))
      have cf8 := H.cell (W9.heap.size) 8 (.slice aD c.nd cD) (mt8 mh)
      have lf := H.lt (W9.heap.size) 0 (.bool (c.o 0)) mh
      go_wp2_with fail
      clear cf0 cf1 cf2 cf3 cf4 cf5 cf6 cf7 cf8 lf
      (with_reducible refine (rof1 c aR cR aD cD u1 _ HZ.out (H.cal (mt32 (mt32 (mt32 (mt8 (mt1 (mt1 (mt1 (mt1 (mt1 (mt1 mh))))))))))) HU1.out).mono ?_)
      rintro e w15 ⟨rfl, hb⟩
      replace H := H.below hb
      clear hb
      cases u1 with
      | false =>
        go_wp2_with fail
        go_ret
        exact ⟨rfl, H.old⟩
      | true =>
        have cf0 := H.cell (W9.heap.size) 0 (.bool (c.o 0)) mh
        have cf1 := H.cell (W9.heap.size) 1 (.bool true) (mt1 mh)
        have cf2 := H.cell (W9.heap.size) 2 (.bool (c.o 2)) (mt1 (mt1 mh))
        have cf3 := H.cell (W9.heap.size) 3 (.bool (c.o 3)) (mt1 (mt1 (mt1 mh)))
        have cf4 := H.cell (W9.heap.size) 4 (.bool (c.o 4)) (mt1 (mt1 (mt1 (mt1 mh))))
        have cf5 := H.cell (W9.heap.size) 5 (.bool (c.o 5)) (mt1 (mt1 (mt1 (mt1 (mt1 mh)))))
        have cf6 := H.cell (W9.heap.size) 6 (.bool (c.o 6)) (mt1 (mt1 (mt1 (mt1 (mt1 (mt1 mh))))))
        have cf7 := H.cell (W9.heap.size) 7 (.slice aR c.nr cR) (mt1 (mt1 (mt1 (mt1 (mt1 (mt1 (mt1 mh)))))))
        have cf8 := H.cell (W9.heap.size) 8 (.slice aD c.nd cD) (mt8 mh)
        have lf := H.lt (W9.heap.size) 0 (.bool (c.o 0)) mh
        go_wp2_with fail
        clear cf0 cf1 cf2 cf3 cf4 cf5 cf6 cf7 cf8 lf
        (with_reducible refine (kof1 K c aR cR aD cD n ((v : Int) != 1) _ (H.factsV (mt32 (mt32 (mt32 (mt8 (mt1 (mt1 (mt1 (mt1 (mt1 (mt1 (mt1 mh)))))))))))) (HU1.out.1 (by first | rfl | trivial)) (H.cal (mt32 (mt32 (mt32 (mt8 (mt1 (mt1 (mt1 (mt1 (mt1 (mt1 mh))))))))))) (HW1.out)).mono ?_)
        rintro e w16 ⟨rfl, hb⟩
        replace H := H.below hb
        clear hb
        go_wp2_with fail
        (with_reducible refine (rweek_is n v _ HV.out).mono ?_)
        rintro e w17 ⟨rfl, hb⟩
        replace H := H.below hb
        clear hb
        go_wp2_with fail
        go_ret
        exact ⟨rfl, H.old⟩
    · skip
      have cc0 := H.cell (w.heap.size + 1) 0 (.bool (c.o 0)) (mt32 (mt1 (mt1 (mt1 (mt1 mh)))))
      have cc1 := H.cell (w.heap.size + 1) 1 (.bool (c.o 1)) (mt32 (mt1 (mt1 (mt1 (mt1 (mt1 mh))))))
      have cc2 := H.cell (w.heap.size + 1) 2 (.bool (c.o 2)) (mt32 (mt1 (mt1 (mt1 (mt1 (mt1 (mt1 mh)))))))
      have cc3 := H.cell (w.heap.size + 1) 3 (.bool (c.o 3)) (mt32 (mt1 (mt1 (mt1 (mt1 (mt1 (mt1 (mt1 mh))))))))
      have cc4 := H.cell (w.heap.size + 1) 4 (.bool (c.o 4)) (mt32 (mt8 mh))
      have cc5 := H.cell (w.heap.size + 1) 5 (.bool (c.o 5)) (mt32 (mt8 (mt1 mh)))
      have cc6 := H.cell (w.heap.size + 1) 6 (.bool (c.o 6)) (mt32 (mt8 (mt1 (mt1 mh))))
      have cc7 := H.cell (w.heap.size + 1) 7 (.slice aR c.nr cR) (mt32 (mt8 (mt1 (mt1 (mt1 mh)))))
      have cc8 := H.cell (w.heap.size + 1) 8 (.slice aD c.nd cD) (mt32 (mt8 (mt1 (mt1 (mt1 (mt1 mh))))))
      have lc := H.lt (w.heap.size + 1) 0 (.bool (c.o 0)) (mt32 (mt1 (mt1 (mt1 (mt1 mh)))))
      go_wp2_with fail
      clear cc0 cc1 cc2 cc3 cc4 cc5 cc6 cc7 cc8 lc
      replace H := (H.box_9 (W9.heap.size) (.bool (c.o 0)) (.bool (c.o 1)) (.bool true) (.bool (c.o 3)) (.bool (c.o 4)) (.bool (c.o 5)) (.bool (c.o 6)) (.slice aR c.nr cR) (.slice aD c.nd cD) 26 rfl)
      (with_reducible refine (K.is c aR cR aD cD n true _ (H.factsV (mt32 (mt32 (mt32 (mt8 (mt1 (mt1 (mt1 (mt1 (mt1 (mt1 (mt1 mh)))))))))))) MA.out (H.cal (mt32 (mt32 (mt32 (mt8 (mt1 (mt1 (mt1 (mt1 (mt1 (mt1 mh))))))))))) ⟨fun _ => HP.out, fun _ => rfl⟩).mono ?_)
      rintro e w18 ⟨rfl, hb⟩
      replace H := H.below hb
      clear hb
      have cd0 := H.cell (w5.heap.size) 0 (.bool (c.o 0)) (mt8 (mt8 (mt1 (mt1 (mt1 (mt1 (mt1 mh)))))))
      have cd1 := H.cell (w5.heap.size) 1 (.bool (c.o 1)) (mt8 (mt8 (mt1 (mt1 (mt1 (mt1 (mt1 (mt1 mh))))))))
      have cd2 := H.cell (w5.heap.size) 2 (.bool (c.o 2)) (mt8 (mt8 (mt1 (mt1 (mt1 (mt1 (mt1 (mt1 (mt1 mh)))))))))
      have cd3 := H.cell (w5.heap.size) 3 (.bool (c.o 3)) (mt8 (mt8 (mt8 mh)))
      have cd4 := H.cell (w5.heap.size) 4 (.bool (c.o 4)) (mt8 (mt8 (mt8 (mt1 mh))))
      have cd5 := H.cell (w5.heap.size) 5 (.bool (c.o 5)) (mt8 (mt8 (mt8 (mt1 (mt1 mh)))))
      have cd6 := H.cell (w5.heap.size) 6 (.bool (c.o 6)) (mt8 (mt8 (mt8 (mt1 (mt1 (mt1 mh))))))
      have cd7 := H.cell (w5.heap.size) 7 (.slice aN (c.nr + 1) cN) (mt8 (mt8 (mt1 (mt1 (mt1 mh)))))
      have cd8 := H.cell (w5.heap.size) 8 (.slice aD c.nd cD) (mt8 (mt8 (mt8 (mt1 (mt1 (mt1 (mt1 mh)))))))
      have ld := H.lt (w5.heap.size) 0 (.bool (c.o 0)) (mt8 (mt8 (mt1 (mt1 (mt1 (mt1 (mt1 mh)))))))
      go_wp2_with fail
      clear cd0 cd1 cd2 cd3 cd4 cd5 cd6 cd7 cd8 ld
      (with_reducible refine (pis K c r aN cN aD cD n false _ (H.factsV (mt32 (mt32 (mt32 (mt8 (mt1 (mt1 (mt1 (mt1 (mt1 (mt1 (mt1 mh)))))))))))) MP.out (H.rules (mt8 (mt8 (mt1 (mt1 mh))))) (cal_d13 (H.cal (mt32 (mt32 (mt32 (mt8 (mt1 (mt1 (mt1 (mt1 (mt1 (mt1 mh)))))))))))) ⟨fun g => absurd g (by decide), fun g => absurd g HQ.out⟩).mono ?_)
      rintro e w19 ⟨rfl, hb⟩
      replace H := H.below hb
      clear hb
      have cr0 := H.cell (w.heap.size + 2) 0 (.int .i64 r.k) (mt32 (mt1 (mt1 (mt1 (mt1 (mt1 (mt1 mh)))))))
      have cr1 := H.cell (w.heap.size + 2) 1 (.int .i64 r.m) (mt32 (mt1 (mt1 (mt1 (mt1 (mt1 (mt1 (mt1 mh))))))))
      have cr2 := H.cell (w.heap.size + 2) 2 (.int .i64 r.d) (mt32 (mt8 mh))
      have cr3 := H.cell (w.heap.size + 2) 3 (.int .i64 r.q) (mt32 (mt8 (mt1 mh)))
      have cr4 := H.cell (w.heap.size + 2) 4 (.int .i64 r.o) (mt32 (mt8 (mt1 (mt1 mh))))
      have cr5 := H.cell (w.heap.size + 2) 5 (.int .i64 r.s) (mt32 (mt8 (mt1 (mt1 (mt1 mh)))))
      have cr6 := H.cell (w.heap.size + 2) 6 (.int .i64 r.f) (mt32 (mt8 (mt1 (mt1 (mt1 (mt1 mh))))))
      have cr7 := H.cell (w.heap.size + 2) 7 (.int .i64 r.t) (mt32 (mt8 (mt1 (mt1 (mt1 (mt1 (mt1 mh)))))))
      have lr := H.lt (w.heap.size + 2) 0 (.int .i64 r.k) (mt32 (mt1 (mt1 (mt1 (mt1 (mt1 (mt1 mh)))))))
      go_wp2_with fail
      clear cr0 cr1 cr2 cr3 cr4 cr5 cr6 cr7 lr
      (with_reducible refine (ruis_any r.k r.m r.d r.q r.o r.s r.f r.t n true _ MR.out ⟨fun _ => HX.out, fun _ => rfl⟩).mono ?_)
      rintro e w20 ⟨rfl, hb⟩
      replace H := H.below hb
      clear hb
      have cf0 := H.cell (W9.heap.size) 0 (.bool (c.o 0)) mh
      have cf1 := H.cell (W9.heap.size) 1 (.bool (c.o 1)) (mt1 mh)
      have cf2 := H.cell (W9.heap.size) 2 (.bool true) (mt1 (mt1 mh))
      have cf3 := H.cell (W9.heap.size) 3 (.bool (c.o 3)) (mt1 (mt1 (mt1 mh)))
      have cf4 := H.cell (W9.heap.size) 4 (.bool (c.o 4)) (mt1 (mt1 (mt1 (mt1 mh))))
      have cf5 := H.cell (W9.heap.size) 5 (.bool (c.o 5)) (mt1 (mt1 (mt1 (mt1 (mt1 mh)))))
      have cf6 := H.cell (W9.heap.size) 6 (.bool (c.o 6)) (mt1 (mt1 (mt1 (mt1 (mt1 (mt1 mh))))))
      have cf7 := H.cell (W9.heap.size) 7 (.slice aR c.nr cR) (mt1 (mt1 (mt1 (mt1 (mt1 (mt1 (mt1 mh)))))))
      have cf8 := H.cell (W9.heap.size) 8 (.slice aD c.nd cD) (mt8 mh)
      have lf := H.lt (W9.heap.size) 0 (.bool (c.o 0)) mh
      go_wp2_with fail
      clear cf0 cf1 cf2 cf3 cf4 cf5 cf6 cf7 cf8 lf
      (with_reducible refine (rof2 c aR cR aD cD u2 _ HZ.out (H.cal (mt32 (mt32 (mt32 (mt8 (mt1 (mt1 (mt1 (mt1 (mt1 (mt1 mh))))))))))) HU2.out).mono ?_)
      rintro e w21 ⟨rfl, hb⟩
      replace H := H.below hb
      clear hb
      cases u2 with
      | false =>
        go_wp2_with fail
        go_ret
        exact ⟨rfl, H.old⟩
      | true =>
        have cf0 := H.cell (W9.heap.size) 0 (.bool (c.o 0)) mh
        have cf1 := H.cell (W9.heap.size) 1 (.bool (c.o 1)) (mt1 mh)
        have cf2 := H.cell (W9.heap.size) 2 (.bool true) (mt1 (mt1 mh))
        have cf3 := H.cell (W9.heap.size) 3 (.bool (c.o 3)) (mt1 (mt1 (mt1 mh)))
        have cf4 := H.cell (W9.heap.size) 4 (.bool (c.o 4)) (mt1 (mt1 (mt1 (mt1 mh))))
        have cf5 := H.cell (W9.heap.size) 5 (.bool (c.o 5)) (mt1 (mt1 (mt1 (mt1 (mt1 mh)))))
        have cf6 := H.cell (W9.heap.size) 6 (.bool (c.o 6)) (mt1 (mt1 (mt1 (mt1 (mt1 (mt1 mh))))))
        have cf7 := H.cell (W9.heap.size) 7 (.slice aR c.nr cR) (mt1 (mt1 (mt1 (mt1 (mt1 (mt1 (mt1 mh)))))))
        have cf8 := H.cell (W9.heap.size) 8 (.slice aD c.nd cD) (mt8 mh)
        have lf := H.lt (W9.heap.size) 0 (.bool (c.o 0)) mh
        go_wp2_with fail
        clear cf0 cf1 cf2 cf3 cf4 cf5 cf6 cf7 cf8 lf
        (with_reducible refine (kof2 K c aR cR aD cD n ((v : Int) != 2) _ (H.factsV (mt32 (mt32 (mt32 (mt8 (mt1 (mt1 (mt1 (mt1 (mt1 (mt1 (mt1 mh)))))))))))) (HU2.out.1 (by first | rfl | trivial)) (H.cal (mt32 (mt32 (mt32 (mt8 (mt1 (mt1 (mt1 (mt1 (mt1 (mt1 mh))))))))))) (HW2.out)).mono ?_)
        rintro e w22 ⟨rfl, hb⟩
        replace H := H.below hb
        clear hb
        go_wp2_with fail
        (with_reducible refine (rweek_is n v _ HV.out).mono ?_)
        rintro e w23 ⟨rfl, hb⟩
        replace H := H.below hb
        clear hb
        go_wp2_with fail
        go_ret
        exact ⟨rfl, H.old⟩
    · skip
      have cc0 := H.cell (w.heap.size + 1) 0 (.bool (c.o 0)) (mt32 (mt1 (mt1 (mt1 (mt1 mh)))))
      have cc1 := H.cell (w.heap.size + 1) 1 (.bool (c.o 1)) (mt32 (mt1 (mt1 (mt1 (mt1 (mt1 mh))))))
      have cc2 := H.cell (w.heap.size + 1) 2 (.bool (c.o 2)) (mt32 (mt1 (mt1 (mt1 (mt1 (mt1 (mt1 mh)))))))
      have cc3 := H.cell (w.heap.size + 1) 3 (.bool (c.o 3)) (mt32 (mt1 (mt1 (mt1 (mt1 (mt1 (mt1 (mt1 mh))))))))
      have cc4 := H.cell (w.heap.size + 1) 4 (.bool (c.o 4)) (mt32 (mt8 mh))
      have cc5 := H.cell (w.heap.size + 1) 5 (.bool (c.o 5)) (mt32 (mt8 (mt1 mh)))
      have cc6 := H.cell (w.heap.size + 1) 6 (.bool (c.o 6)) (mt32 (mt8 (mt1 (mt1 mh))))
      have cc7 := H.cell (w.heap.size + 1) 7 (.slice aR c.nr cR) (mt32 (mt8 (mt1 (mt1 (mt1 mh)))))
      have cc8 := H.cell (w.heap.size + 1) 8 (.slice aD c.nd cD) (mt32 (mt8 (mt1 (mt1 (mt1 (mt1 mh))))))
      have lc := H.lt (w.heap.size + 1) 0 (.bool (c.o 0)) (mt32 (mt1 (mt1 (mt1 (mt1 mh)))))
      go_wp2_with fail
      clear cc0 cc1 cc2 cc3 cc4 cc5 cc6 cc7 cc8 lc
      replace H := (H.box_9 (W9.heap.size) (.bool (c.o 0)) (.bool (c.o 1)) (.bool (c.o 2)) (.bool true) (.bool (c.o 4)) (.bool (c.o 5)) (.bool (c.o 6)) (.slice aR c.nr cR) (.slice aD c.nd cD) 26 rfl)
      (with_reducible refine (K.is c aR cR aD cD n true _ (H.factsV (mt32 (mt32 (mt32 (mt8 (mt1 (mt1 (mt1 (mt1 (mt1 (mt1 (mt1 mh)))))))))))) MA.out (H.cal (mt32 (mt32 (mt32 (mt8 (mt1 (mt1 (mt1 (mt1 (mt1 (mt1 mh))))))))))) ⟨fun _ => HP.out, fun _ => rfl⟩).mono ?_)
      rintro e w24 ⟨rfl, hb⟩
      replace H := H.below hb
      clear hb
      have cd0 := H.cell (w5.heap.size) 0 (.bool (c.o 0)) (mt8 (mt8 (mt1 (mt1 (mt1 (mt1 (mt1 mh)))))))
      have cd1 := H.cell (w5.heap.size) 1 (.bool (c.o 1)) (mt8 (mt8 (mt1 (mt1 (mt1 (mt1 (mt1 (mt1 mh))))))))
      have cd2 := H.cell (w5.heap.size) 2 (.bool (c.o 2)) (mt8 (mt8 (mt1 (mt1 (mt1 (mt1 (mt1 (mt1 (mt1 mh)))))))))
      have cd3 := H.cell (w5.heap.size) 3 (.bool (c.o 3)) (mt8 (mt8 (mt8 mh)))
      have cd4 := H.cell (w5.heap.size) 4 (.bool (c.o 4)) (mt8 (mt8 (mt8 (mt1 mh))))
      have cd5 := H.cell (w5.heap.size) 5 (.bool (c.o 5)) (mt8 (mt8 (mt8 (mt1 (mt1 mh)))))
      have cd6 := H.cell (w5.heap.size) 6 (.bool (c.o 6)) (mt8 (mt8 (mt8 (mt1 (mt1 (mt1 mh))))))
      have cd7 := H.cell (w5.heap.size) 7 (.slice aN (c.nr + 1) cN) (mt8 (mt8 (mt1 (mt1 (mt1 mh)))))
      have cd8 := H.cell (w5.heap.size) 8 (.slice aD c.nd cD) (mt8 (mt8 (mt8 (mt1 (mt1 (mt1 (mt1 mh)))))))
      have ld := H.lt (w5.heap.size) 0 (.bool (c.o 0)) (mt8 (mt8 (mt1 (mt1 (mt1 (mt1 (mt1 mh)))))))
      go_wp2_with fail
      clear cd0 cd1 cd2 cd3 cd4 cd5 cd6 cd7 cd8 ld
      (with_reducible refine (pis K c r aN cN aD cD n false _ (H.factsV (mt32 (mt32 (mt32 (mt8 (mt1 (mt1 (mt1 (mt1 (mt1 (mt1 (mt1 mh)))))))))))) MP.out (H.rules (mt8 (mt8 (mt1 (mt1 mh))))) (cal_d13 (H.cal (mt32 (mt32 (mt32 (mt8 (mt1 (mt1 (mt1 (mt1 (mt1 (mt1 mh)))))))))))) ⟨fun g => absurd g (by decide), fun g => absurd g HQ.out⟩).mono ?_)
      rintro e w25 ⟨rfl, hb⟩
      replace H := H.below hb
      clear hb
      have cr0 := H.cell (w.heap.size + 2) 0 (.int .i64 r.k) (mt32 (mt1 (mt1 (mt1 (mt1 (mt1 (mt1 mh)))))))
      have cr1 := H.cell (w.heap.size + 2) 1 (.int .i64 r.m) (mt32 (mt1 (mt1 (mt1 (mt1 (mt1 (mt1 (mt1 mh))))))))
      have cr2 := H.cell (w.heap.size + 2) 2 (.int .i64 r.d) (mt32 (mt8 mh))
      have cr3 := H.cell (w.heap.size + 2) 3 (.int .i64 r.q) (mt32 (mt8 (mt1 mh)))
      have cr4 := H.cell (w.heap.size + 2) 4 (.int .i64 r.o) (mt32 (mt8 (mt1 (mt1 mh))))
      have cr5 := H.cell (w.heap.size + 2) 5 (.int .i64 r.s) (mt32 (mt8 (mt1 (mt1 (mt1 mh)))))
      have cr6 := H.cell (w.heap.size + 2) 6 (.int .i64 r.f) (mt32 (mt8 (mt1 (mt1 (mt1 (mt1 mh))))))
      have cr7 := H.cell (w.heap.size + 2) 7 (.int .i64 r.t) (mt32 (mt8 (mt1 (mt1 (mt1 (mt1 (mt1 mh)))))))
      have lr := H.lt (w.heap.size + 2) 0 (.int .i64 r.k) (mt32 (mt1 (mt1 (mt1 (mt1 (mt1 (mt1 mh)))))))
      go_wp2_with fail
      clear cr0 cr1 cr2 cr3 cr4 cr5 cr6 cr7 lr
      (with_reducible refine (ruis_any r.k r.m r.d r.q r.o r.s r.f r.t n true _ MR.out ⟨fun _ => HX.out, fun _ => rfl⟩).mono ?_)
      rintro e w26 ⟨rfl, hb⟩
      replace H := H.below hb
      clear hb
      have cf0 := H.cell (W9.heap.size) 0 (.bool (c.o 0)) mh
      have cf1 := H.cell (W9.heap.size) 1 (.bool (c.o 1)) (mt1 mh)
      have cf2 := H.cell (W9.heap.size) 2 (.bool (c.o 2)) (mt1 (mt1 mh))
      have cf3 := H.cell (W9.heap.size) 3 (.bool true) (mt1 (mt1 (mt1 mh)))
      have cf4 := H.cell (W9.heap.size) 4 (.bool (c.o 4)) (mt1 (mt1 (mt1 (mt1 mh))))
      have cf5 := H.cell (W9.heap.size) 5 (.bool (c.o 5)) (mt1 (mt1 (mt1 (mt1 (mt1 mh)))))
      have cf6 := H.cell (W9.heap.size) 6 (.bool (c.o 6)) (mt1 (mt1 (mt1 (mt1 (mt1 (mt1 mh))))))
      have cf7 := H.cell (W9.heap.size) 7 (.slice aR c.nr cR) (mt1 (mt1 (mt1 (mt1 (mt1 (mt1 (mt1 mh)))))))
      have cf8 := H.cell (W9.heap.size) 8 (.slice aD c.nd cD) (mt8 mh)
      have lf := H.lt (W9.heap.size) 0 (.bool (c.o 0)) mh
      go_wp2_with fail
      clear cf0 cf1 cf2 cf3 cf4 cf5 cf6 cf7 cf8 lf
      (with_reducible refine (rof3 c aR cR aD cD u3 _ HZ.out (H.cal (mt32 (mt32 (mt32 (mt8 (mt1 (mt1 (mt1 (mt1 (mt1 (mt1 mh))))))))))) HU3.out).mono ?_)
      rintro e w27 ⟨rfl, hb⟩
      replace H := H.below hb
      clear hb
      cases u3 with
      | false =>
        go_wp2_with fail
        go_ret
        exact ⟨rfl, H.old⟩
      | true =>
        have cf0 := H.cell (W9.heap.size) 0 (.bool (c.o 0)) mh
        have cf1 := H.cell (W9.heap.size) 1 (.bool (c.o 1)) (mt1 mh)
        have cf2 := H.cell (W9.heap.size) 2 (.bool (c.o 2)) (mt1 (mt1 mh))
        have cf3 := H.cell (W9.heap.size) 3 (.bool true) (mt1 (mt1 (mt1 mh)))
        have cf4 := H.cell (W9.heap.size) 4 (.bool (c.o 4)) (mt1 (mt1 (mt1 (mt1 mh))))
        have cf5 := H.cell (W9.heap.size) 5 (.bool (c.o 5)) (mt1 (mt1 (mt1 (mt1 (mt1 mh)))))
        have cf6 := H.cell (W9.heap.size) 6 (.bool (c.o 6)) (mt1 (mt1 (mt1 (mt1 (mt1 (mt1 mh))))))
        have cf7 := H.cell (W9.heap.size) 7 (.slice aR c.nr cR) (mt1 (mt1 (mt1 (mt1 (mt1 (mt1 (mt1 mh)))))))
        have cf8 := H.cell (W9.heap.size) 8 (.slice aD c.nd cD) (mt8 mh)
        have lf := H.lt (W9.heap.size) 0 (.bool (c.o 0)) mh
        go_wp2_with fail
        clear cf0 cf1 cf2 cf3 cf4 cf5 cf6 cf7 cf8 lf
        (with_reducible refine (kof3 K c aR cR aD cD n ((v : Int) != 3) _ (H.factsV (mt32 (mt32 (mt32 (mt8 (mt1 (mt1 (mt1 (mt1 (mt1 (mt1 (mt1 mh)))))))))))) (HU3.out.1 (by first | rfl | trivial)) (H.cal (mt32 (mt32 (mt32 (mt8 (mt1 (mt1 (mt1 (mt1 (mt1 (mt1 mh))))))))))) (HW3.out)).mono ?_)
        rintro e w28 ⟨rfl, hb⟩
        replace H := H.below hb
        clear hb
        go_wp2_with fail
        (with_reducible refine (rweek_is n v _ HV.out).mono ?_)
        rintro e w29 ⟨rfl, hb⟩
        replace H := H.below hb
        clear hb
        go_wp2_with fail
        go_ret
        exact ⟨rfl, H.old⟩
    · skip
      have cc0 := H.cell (w.heap.size + 1) 0 (.bool (c.o 0)) (mt32 (mt1 (mt1 (mt1 (mt1 mh)))))
      have cc1 := H.cell (w.heap.size + 1) 1 (.bool (c.o 1)) (mt32 (mt1 (mt1 (mt1 (mt1 (mt1 mh))))))
      have cc2 := H.cell (w.heap.size + 1) 2 (.bool (c.o 2)) (mt32 (mt1 (mt1 (mt1 (mt1 (mt1 (mt1 mh)))))))
      have cc3 := H.cell (w.heap.size + 1) 3 (.bool (c.o 3)) (mt32 (mt1 (mt1 (mt1 (mt1 (mt1 (mt1 (mt1 mh))))))))
      have cc4 := H.cell (w.heap.size + 1) 4 (.bool (c.o 4)) (mt32 (mt8 mh))
      have cc5 := H.cell (w.heap.size + 1) 5 (.bool (c.o 5)) (mt32 (mt8 (mt1 mh)))
      have cc6 := H.cell (w.heap.size + 1) 6 (.bool (c.o 6)) (mt32 (mt8 (mt1 (mt1 mh))))
      have cc7 := H.cell (w.heap.size + 1) 7 (.slice aR c.nr cR) (mt32 (mt8 (mt1 (mt1 (mt1 mh)))))
      have cc8 := H.cell (w.heap.size + 1) 8 (.slice aD c.nd cD) (mt32 (mt8 (mt1 (mt1 (mt1 (mt1 mh))))))
      have lc := H.lt (w.heap.size + 1) 0 (.bool (c.o 0)) (mt32 (mt1 (mt1 (mt1 (mt1 mh)))))
      go_wp2_with fail
      clear cc0 cc1 cc2 cc3 cc4 cc5 cc6 cc7 cc8 lc
      replace H := (H.box_9 (W9.heap.size) (.bool (c.o 0)) (.bool (c.o 1)) (.bool (c.o 2)) (.bool (c.o 3)) (.bool true) (.bool (c.o 5)) (.bool (c.o 6)) (.slice aR c.nr cR) (.slice aD c.nd cD) 26 rfl)
      (with_reducible refine (K.is c aR cR aD cD n true _ (H.factsV (mt32 (mt32 (mt32 (mt8 (mt1 (mt1 (mt1 (mt1 (mt1 (mt1 (mt1 mh)))))))))))) MA.out (H.cal (mt32 (mt32 (mt32 (mt8 (mt1 (mt1 (mt1 (mt1 (mt1 (mt1 mh))))))))))) ⟨fun _ => HP.out, fun _ => rfl⟩).mono ?_)
      rintro e w30 ⟨rfl, hb⟩
      replace H := H.below hb
      clear hb
      have cd0 := H.cell (w5.heap.size) 0 (.bool (c.o 0)) (mt8 (mt8 (mt1 (mt1 (mt1 (mt1 (mt1 mh)))))))
      have cd1 := H.cell (w5.heap.size) 1 (.bool (c.o 1)) (mt8 (mt8 (mt1 (mt1 (mt1 (mt1 (mt1 (mt1 mh))))))))
      have cd2 := H.cell (w5.heap.size) 2 (.bool (c.o 2)) (mt8 (mt8 (mt1 (mt1 (mt1 (mt1 (mt1 (mt1 (mt1 mh)))))))))
      have cd3 := H.cell (w5.heap.size) 3 (.bool (c.o 3)) (mt8 (mt8 (mt8 mh)))
      have cd4 := H.cell (w5.heap.size) 4 (.bool (c.o 4)) (mt8 (mt8 (mt8 (mt1 mh))))
      have cd5 := H.cell (w5.heap.size) 5 (.bool (c.o 5)) (mt8 (mt8 (mt8 (mt1 (mt1 mh)))))
      have cd6 := H.cell (w5.heap.size) 6 (.bool (c.o 6)) (mt8 (mt8 (mt8 (mt1 (mt1 (mt1 mh))))))
      have cd7 := H.cell (w5.heap.size) 7 (.slice aN (c.nr + 1) cN) (mt8 (mt8 (mt1 (mt1 (mt1 mh)))))
      have cd8 := H.cell (w5.heap.size) 8 (.slice aD c.nd cD) (mt8 (mt8 (mt8 (mt1 (mt1 (mt1 (mt1 mh)))))))
      have ld := H.lt (w5.heap.size) 0 (.bool (c.o 0)) (mt8 (mt8 (mt1 (mt1 (mt1 (mt1 (mt1 mh)))))))
      go_wp2_with fail
      clear cd0 cd1 cd2 cd3 cd4 cd5 cd6 cd7 cd8 ld
      (with_reducible refine (pis K c r aN cN aD cD n false _ (H.factsV (mt32 (mt32 (mt32 (mt8 (mt1 (mt1 (mt1 (mt1 (mt1 (mt1 (mt1 mh)))))))))))) MP.out (H.rules (mt8 (mt8 (mt1 (mt1 mh))))) (cal_d13 (H.cal (mt32 (mt32 (mt32 (mt8 (mt1 (mt1 (mt1 (mt1 (mt1 (mt1 mh)))))))))))) ⟨fun g => absurd g (by decide), fun g => absurd g HQ.out⟩).mono ?_)
      rintro e w31 ⟨rfl, hb⟩
      replace H := H.below hb
      clear hb
      have cr0 := H.cell (w.heap.size + 2) 0 (.int .i64 r.k) (mt32 (mt1 (mt1 (mt1 (mt1 (mt1 (mt1 mh)))))))
      have cr1 := H.cell (w.heap.size + 2) 1 (.int .i64 r.m) (mt32 (mt1 (mt1 (mt1 (mt1 (mt1 (mt1 (mt1 mh))))))))
      have cr2 := H.cell (w.heap.size + 2) 2 (.int .i64 r.d) (mt32 (mt8 mh))
      have cr3 := H.cell (w.heap.size + 2) 3 (.int .i64 r.q) (mt32 (mt8 (mt1 mh)))
      have cr4 := H.cell (w.heap.size + 2) 4 (.int .i64 r.o) (mt32 (mt8 (mt1 (mt1 mh))))
      have cr5 := H.cell (w.heap.size + 2) 5 (.int .i64 r.s) (mt32 (mt8 (mt1 (mt1 (mt1 mh)))))
      have cr6 := H.cell (w.heap.size + 2) 6 (.int .i64 r.f) (mt32 (mt8 (mt1 (mt1 (mt1 (mt1 mh))))))
      have cr7 := H.cell (w.heap.size + 2) 7 (.int .i64 r.t) (mt32 (mt8 (mt1 (mt1 (mt1 (mt1 (mt1 mh)))))))
      have lr := H.lt (w.heap.size + 2) 0 (.int .i64 r.k) (mt32 (mt1 (mt1 (mt1 (mt1 (mt1 (mt1 mh)))))))
      go_wp2_with fail
      clear cr0 cr1 cr2 cr3 cr4 cr5 cr6 cr7 lr
      (with_reducible refine (ruis_any r.k r.m r.d r.q r.o r.s r.f r.t n true _ MR.out ⟨fun _ => HX.out, fun _ => rfl⟩).mono ?_)
      rintro e w32 ⟨rfl, hb⟩
      replace H := H.below hb
      clear hb
      have cf0 := H.cell (W9.heap.size) 0 (.bool (c.o 0)) mh
      have cf1 := H.cell (W9.heap.size) 1 (.bool (c.o 1)) (mt1 mh)
      have cf2 := H.cell (W9.heap.size) 2 (.bool (c.o 2)) (mt1 (mt1 mh))
      have cf3 := H.cell (W9.heap.size) 3 (.bool (c.o 3)) (mt1 (mt1 (mt1 mh)))
      have cf4 := H.cell (W9.heap.size) 4 (.bool true) (mt1 (mt1 (mt1 (mt1 mh))))
      have cf5 := H.cell (W9.heap.size) 5 (.bool (c.o 5)) (mt1 (mt1 (mt1 (mt1 (mt1 mh)))))
      have cf6 := H.cell (W9.heap.size) 6 (.bool (c.o 6)) (mt1 (mt1 (mt1 (mt1 (mt1 (mt1 mh))))))
      have cf7 := H.cell (W9.heap.size) 7 (.slice aR c.nr cR) (mt1 (mt1 (mt1 (mt1 (mt1 (mt1 (mt1 mh)))))))
      have cf8 := H.cell (W9.heap.size) 8 (.slice aD c.nd cD) (mt8 mh)
      have lf := H.lt (W9.heap.size) 0 (.bool (c.o 0)) mh
      go_wp2_with fail
      clear cf0 cf1 cf2 cf3 cf4 cf5 cf6 cf7 cf8 lf
      (with_reducible refine (rof4 c aR cR aD cD u4 _ HZ.out (H.cal (mt32 (mt32 (mt32 (mt8 (mt1 (mt1 (mt1 (mt1 (mt1 (mt1 mh))))))))))) HU4.out).mono ?_)
      rintro e w33 ⟨rfl, hb⟩
      replace H := H.below hb
      clear hb
      cases u4 with
      | false =>
        go_wp2_with fail
        go_ret
        exact ⟨rfl, H.old⟩
      | true =>
        have cf0 := H.cell (W9.heap.size) 0 (.bool (c.o 0)) mh
        have cf1 := H.cell (W9.heap.size) 1 (.bool (c.o 1)) (mt1 mh)
        have cf2 := H.cell (W9.heap.size) 2 (.bool (c.o 2)) (mt1 (mt1 mh))
        have cf3 := H.cell (W9.heap.size) 3 (.bool (c.o 3)) (mt1 (mt1 (mt1 mh)))
        have cf4 := H.cell (W9.heap.size) 4 (.bool true) (mt1 (mt1 (mt1 (mt1 mh))))
        have cf5 := H.cell (W9.heap.size) 5 (.bool (c.o 5)) (mt1 (mt1 (mt1 (mt1 (mt1 mh)))))
        have cf6 := H.cell (W9.heap.size) 6 (.bool (c.o 6)) (mt1 (mt1 (mt1 (mt1 (mt1 (mt1 mh))))))
        have cf7 := H.cell (W9.heap.size) 7 (.slice aR c.nr cR) (mt1 (mt1 (mt1 (mt1 (mt1 (mt1 (mt1 mh)))))))
        have cf8 := H.cell (W9.heap.size) 8 (.slice aD c.nd cD) (mt8 mh)
        have lf := H.lt (W9.heap.size) 0 (.bool (c.o 0)) mh
        go_wp2_with fail
        clear cf0 cf1 cf2 cf3 cf4 cf5 cf6 cf7 cf8 lf
        (with_reducible refine (kof4 K c aR cR aD cD n ((v : Int) != 4) _ (H.factsV (mt32 (mt32 (mt32 (mt8 (mt1 (mt1 (mt1 (mt1 (mt1 (mt1 (mt1 mh)))))))))))) (HU4.out.1 (by first | rfl | trivial)) (H.cal (mt32 (mt32 (mt32 (mt8 (mt1 (mt1 (mt1 (mt1 (mt1 (mt1 mh))))))))))) (HW4.out)).mono ?_)
        rintro e w34 ⟨rfl, hb⟩
        replace H := H.below hb
        clear hb
        go_wp2_with fail
        (with_reducible refine (rweek_is n v _ HV.out).mono ?_)
        rintro e w35 ⟨rfl, hb⟩
        replace H := H.below hb
        clear hb
        go_wp2_with fail
        go_ret
        exact ⟨rfl, H.old⟩
    · skip
      have cc0 := H.cell (w.heap.size + 1) 0 (.bool (c.o 0)) (mt32 (mt1 (mt1 (mt1 (mt1 mh)))))
      have cc1 := H.cell (w.heap.size + 1) 1 (.bool (c.o 1)) (mt32 (mt1 (mt1 (mt1 (mt1 (mt1 mh))))))
      have cc2 := H.cell (w.heap.size + 1) 2 (.bool (c.o 2)) (mt32 (mt1 (mt1 (mt1 (mt1 (mt1 (mt1 mh)))))))
      have cc3 := H.cell (w.heap.size + 1) 3 (.bool (c.o 3)) (mt32 (mt1 (mt1 (mt1 (mt1 (mt1 (mt1 (mt1 mh))))))))
      have cc4 := H.cell (w.heap.size + 1) 4 (.bool (c.o 4)) (mt32 (mt8 mh))
      have cc5 := H.cell (w.heap.size + 1) 5 (.bool (c.o 5)) (mt32 (mt8 (mt1 mh)))
      have cc6 := H.cell (w.heap.size + 1) 6 (.bool (c.o 6)) (mt32 (mt8 (mt1 (mt1 mh))))
      have cc7 := H.cell (w.heap.size + 1) 7 (.slice aR c.nr cR) (mt32 (mt8 (mt1 (mt1 (mt1 mh)))))
      have cc8 := H.cell (w.heap.size + 1) 8 (.slice aD c.nd cD) (mt32 (mt8 (mt1 (mt1 (mt1 (mt1 mh))))))
      have lc := H.lt (w.heap.size + 1) 0 (.bool (c.o 0)) (mt32 (mt1 (mt1 (mt1 (mt1 mh)))))
      go_wp2_with fail
      clear cc0 cc1 cc2 cc3 cc4 cc5 cc6 cc7 cc8 lc
      replace H := (H.box_9 (W9.heap.size) (.bool (c.o 0)) (.bool (c.o 1)) (.bool (c.o 2)) (.bool (c.o 3)) (.bool (c.o 4)) (.bool true) (.bool (c.o 6)) (.slice aR c.nr cR) (.slice aD c.nd cD) 26 rfl)
      (with_reducible refine (K.is c aR cR aD cD n true _ (H.factsV (mt32 (mt32 (mt32 (mt8 (mt1 (mt1 (mt1 (mt1 (mt1 (mt1 (mt1 mh)))))))))))) MA.out (H.cal (mt32 (mt32 (mt32 (mt8 (mt1 (mt1 (mt1 (mt1 (mt1 (mt1 mh))))))))))) ⟨fun _ => HP.out, fun _ => rfl⟩).mono ?_)
      rintro e w36 ⟨rfl, hb⟩
      replace H := H.below hb
      clear hb
      have cd0 := H.cell (w5.heap.size) 0 (.bool (c.o 0)) (mt8 (mt8 (mt1 (mt1 (mt1 (mt1 (mt1 mh)))))))
      have cd1 := H.cell (w5.heap.size) 1 (.bool (c.o 1)) (mt8 (mt8 (mt1 (mt1 (mt1 (mt1 (mt1 (mt1 mh))))))))
      have cd2 := H.cell (w5.heap.size) 2 (.bool (c.o 2)) (mt8 (mt8 (mt1 (mt1 (mt1 (mt1 (mt1 (mt1 (mt1 mh)))))))))
      have cd3 := H.cell (w5.heap.size) 3 (.bool (c.o 3)) (mt8 (mt8 (mt8 mh)))
      have cd4 := H.cell (w5.heap.size) 4 (.bool (c.o 4)) (mt8 (mt8 (mt8 (mt1 mh))))
      have cd5 := H.cell (w5.heap.size) 5 (.bool (c.o 5)) (mt8 (mt8 (mt8 (mt1 (mt1 mh)))))
      have cd6 := H.cell (w5.heap.size) 6 (.bool (c.o 6)) (mt8 (mt8 (mt8 (mt1 (mt1 (mt1 mh))))))
      have cd7 := H.cell (w5.heap.size) 7 (.slice aN (c.nr + 1) cN) (mt8 (mt8 (mt1 (mt1 (mt1 mh)))))
      have cd8 := H.cell (w5.heap.size) 8 (.slice aD c.nd cD) (mt8 (mt8 (mt8 (mt1 (mt1 (mt1 (mt1 mh)))))))
      have ld := H.lt (w5.heap.size) 0 (.bool (c.o 0)) (mt8 (mt8 (mt1 (mt1 (mt1 (mt1 (mt1 mh)))))))
      go_wp2_with fail
      clear cd0 cd1 cd2 cd3 cd4 cd5 cd6 cd7 cd8 ld
      (with_reducible refine (pis K c r aN cN aD cD n false _ (H.factsV (mt32 (mt32 (mt32 (mt8 (mt1 (mt1 (mt1 (mt1 (mt1 (mt1 (mt1 mh)))))))))))) MP.out (H.rules (mt8 (mt8 (mt1 (mt1 mh))))) (cal_d13 (H.cal (mt32 (mt32 (mt32 (mt8 (mt1 (mt1 (mt1 (mt1 (mt1 (mt1 mh)))))))))))) ⟨fun g => absurd g (by decide), fun g => absurd g HQ.out⟩).mono ?_)
      rintro e w37 ⟨rfl, hb⟩
      replace H := H.below hb
      clear hb
      have cr0 := H.cell (w.heap.size + 2) 0 (.int .i64 r.k) (mt32 (mt1 (mt1 (mt1 (mt1 (mt1 (mt1 mh)))))))
      have cr1 := H.cell (w.heap.size + 2) 1 (.int .i64 r.m) (mt32 (mt1 (mt1 (mt1 (mt1 (mt1 (mt1 (mt1 mh))))))))
      have cr2 := H.cell (w.heap.size + 2) 2 (.int .i64 r.d) (mt32 (mt8 mh))
      have cr3 := H.cell (w.heap.size + 2) 3 (.int .i64 r.q) (mt32 (mt8 (mt1 mh)))
      have cr4 := H.cell (w.heap.size + 2) 4 (.int .i64 r.o) (mt32 (mt8 (mt1 (mt1 mh))))
      have cr5 := H.cell (w.heap.size + 2) 5 (.int .i64 r.s) (mt32 (mt8 (mt1 (mt1 (mt1 mh)))))
      have cr6 := H.cell (w.heap.size + 2) 6 (.int .i64 r.f) (mt32 (mt8 (mt1 (mt1 (mt1 (mt1 mh))))))
      have cr7 := H.cell (w.heap.size + 2) 7 (.int .i64 r.t) (mt32 (mt8 (mt1 (mt1 (mt1 (mt1 (mt1 mh)))))))
      have lr := H.lt (w.heap.size + 2) 0 (.int .i64 r.k) (mt32 (mt1 (mt1 (mt1 (mt1 (mt1 (mt1 mh)))))))
      go_wp2_with fail
      clear cr0 cr1 cr2 cr3 cr4 cr5 cr6 cr7 lr
      (with_reducible refine (ruis_any r.k r.m r.d r.q r.o r.s r.f r.t n true _ MR.out ⟨fun _ => HX.out, fun _ => rfl⟩).mono ?_)
      rintro e w38 ⟨rfl, hb⟩
      replace H := H.below hb
      clear hb
      have cf0 := H.cell (W9.heap.size) 0 (.bool (c.o 0)) mh
      have cf1 := H.cell (W9.heap.size) 1 (.bool (c.o 1)) (mt1 mh)
      have cf2 := H.cell (W9.heap.size) 2 (.bool (c.o 2)) (mt1 (mt1 mh))
      have cf3 := H.cell (W9.heap.size) 3 (.bool (c.o 3)) (mt1 (mt1 (mt1 mh)))
      have cf4 := H.cell (W9.heap.size) 4 (.bool (c.o 4)) (mt1 (mt1 (mt1 (mt1 mh))))
      have cf5 := H.cell (W9.heap.size) 5 (.bool true) (mt1 (mt1 (mt1 (mt1 (mt1 mh)))))
      have cf6 := H.cell (W9.heap.size) 6 (.bool (c.o 6)) (mt1 (mt1 (mt1 (mt1 (mt1 (mt1 mh))))))
      have cf7 := H.cell (W9.heap.size) 7 (.slice aR c.nr cR) (mt1 (mt1 (mt1 (mt1 (mt1 (mt1 (mt1 mh)))))))
      have cf8 := H.cell (W9.heap.size) 8 (.slice aD c.nd cD) (mt8 mh)
      have lf := H.lt (W9.heap.size) 0 (.bool (c.o 0)) mh
      go_wp2_with fail
      clear cf0 cf1 cf2 cf3 cf4 cf5 cf6 cf7 cf8 lf
      (with_reducible refine (rof5 c aR cR aD cD u5 _ HZ.out (H.cal (mt32 (mt32 (mt32 (mt8 (mt1 (mt1 (mt1 (mt1 (mt1 (mt1 mh))))))))))) HU5.out).mono ?_)
      rintro e w39 ⟨rfl, hb⟩
      replace H := H.below hb
      clear hb
      cases u5 with
      | false =>
        go_wp2_with fail
        go_ret
        exact ⟨rfl, H.old⟩
      | true =>
        have cf0 := H.cell (W9.heap.size) 0 (.bool (c.o 0)) mh
        have cf1 := H.cell (W9.heap.size) 1 (.bool (c.o 1)) (mt1 mh)
        have cf2 := H.cell (W9.heap.size) 2 (.bool (c.o 2)) (mt1 (mt1 mh))
        have cf3 := H.cell (W9.heap.size) 3 (.bool (c.o 3)) (mt1 (mt1 (mt1 mh)))
        have cf4 := H.cell (W9.heap.size) 4 (.bool (c.o 4)) (mt1 (mt1 (mt1 (mt1 mh))))
        have cf5 := H.cell (W9.heap.size) 5 (.bool true) (mt1 (mt1 (mt1 (mt1 (mt1 mh)))))
        have cf6 := H.cell (W9.heap.size) 6 (.bool (c.o 6)) (mt1 (mt1 (mt1 (mt1 (mt1 (mt1 mh))))))
        have cf7 := H.cell (W9.heap.size) 7 (.slice aR c.nr cR) (mt1 (mt1 (mt1 (mt1 (mt1 (mt1 (mt1 mh)))))))
        have cf8 := H.cell (W9.heap.size) 8 (.slice aD c.nd cD) (mt8 mh)
        have lf := H.lt (W9.heap.size) 0 (.bool (c.o 0)) mh
        go_wp2_with fail
        clear cf0 cf1 cf2 cf3 cf4 cf5 cf6 cf7 cf8 lf
        (with_reducible refine (kof5 K c aR cR aD cD n ((v : Int) != 5) _ (H.factsV (mt32 (mt32 (mt32 (mt8 (mt1 (mt1 (mt1 (mt1 (mt1 (mt1 (mt1 mh)))))))))))) (HU5.out.1 (by first | rfl | trivial)) (H.cal (mt32 (mt32 (mt32 (mt8 (mt1 (mt1 (mt1 (mt1 (mt1 (mt1 mh))))))))))) (HW5.out)).mono ?_)
        rintro e w40 ⟨rfl, hb⟩
        replace H := H.below hb
        clear hb
        go_wp2_with fail
        (with_reducible refine (rweek_is n v _ HV.out).mono ?_)
        rintro e w41 ⟨rfl, hb⟩
        replace H := H.below hb
        clear hb
        go_wp2_with fail
        go_ret
        exact ⟨rfl, H.old⟩
    · skip
      have cc0 := H.cell (w.heap.size + 1) 0 (.bool (c.o 0)) (mt32 (mt1 (mt1 (mt1 (mt1 mh)))))
      have cc1 := H.cell (w.heap.size + 1) 1 (.bool (c.o 1)) (mt32 (mt1 (mt1 (mt1 (mt1 (mt1 mh))))))
      have cc2 := H.cell (w.heap.size + 1) 2 (.bool (c.o 2)) (mt32 (mt1 (mt1 (mt1 (mt1 (mt1 (mt1 mh)))))))
      have cc3 := H.cell (w.heap.size + 1) 3 (.bool (c.o 3)) (mt32 (mt1 (mt1 (mt1 (mt1 (mt1 (mt1 (mt1 mh))))))))
      have cc4 := H.cell (w.heap.size + 1) 4 (.bool (c.o 4)) (mt32 (mt8 mh))
      have cc5 := H.cell (w.heap.size + 1) 5 (.bool (c.o 5)) (mt32 (mt8 (mt1 mh)))
      have cc6 := H.cell (w.heap.size + 1) 6 (.bool (c.o 6)) (mt32 (mt8 (mt1 (mt1 mh))))
      have cc7 := H.cell (w.heap.size + 1) 7 (.slice aR c.nr cR) (mt32 (mt8 (mt1 (mt1 (mt1 mh)))))
      have cc8 := H.cell (w.heap.size + 1) 8 (.slice aD c.nd cD) (mt32 (mt8 (mt1 (mt1 (mt1 (mt1 mh))))))
      have lc := H.lt (w.heap.size + 1) 0 (.bool (c.o 0)) (mt32 (mt1 (mt1 (mt1 (mt1 mh)))))
      go_wp2_with fail
      clear cc0 cc1 cc2 cc3 cc4 cc5 cc6 cc7 cc8 lc
      replace H := (H.box_9 (W9.heap.size) (.bool (c.o 0)) (.bool (c.o 1)) (.bool (c.o 2)) (.bool (c.o 3)) (.bool (c.o 4)) (.bool (c.o 5)) (.bool true) (.slice aR c.nr cR) (.slice aD c.nd cD) 26 rfl)
      (with_reducible refine (K.is c aR cR aD cD n true _ (H.factsV (mt32 (mt32 (mt32 (mt8 (mt1 (mt1 (mt1 (mt1 (mt1 (mt1 (mt1 mh)))))))))))) MA.out (H.cal (mt32 (mt32 (mt32 (mt8 (mt1 (mt1 (mt1 (mt1 (mt1 (mt1 mh))))))))))) ⟨fun _ => HP.out, fun _ => rfl⟩).mono ?_)
      rintro e w42 ⟨rfl, hb⟩
      replace H := H.below hb
      clear hb
      have cd0 := H.cell (w5.heap.size) 0 (.bool (c.o 0)) (mt8 (mt8 (mt1 (mt1 (mt1 (mt1 (mt1 mh)))))))
      have cd1 := H.cell (w5.heap.size) 1 (.bool (c.o 1)) (mt8 (mt8 (mt1 (mt1 (mt1 (mt1 (mt1 (mt1 mh))))))))
      have cd2 := H.cell (w5.heap.size) 2 (.bool (c.o 2)) (mt8 (mt8 (mt1 (mt1 (mt1 (mt1 (mt1 (mt1 (mt1 mh)))))))))
      have cd3 := H.cell (w5.heap.size) 3 (.bool (c.o 3)) (mt8 (mt8 (mt8 mh)))
      have cd4 := H.cell (w5.heap.size) 4 (.bool (c.o 4)) (mt8 (mt8 (mt8 (mt1 mh))))
      have cd5 := H.cell (w5.heap.size) 5 (.bool (c.o 5)) (mt8 (mt8 (mt8 (mt1 (mt1 mh)))))
      have cd6 := H.cell (w5.heap.size) 6 (.bool (c.o 6)) (mt8 (mt8 (mt8 (mt1 (mt1 (mt1 mh))))))
      have cd7 := H.cell (w5.heap.size) 7 (.slice aN (c.nr + 1) cN) (mt8 (mt8 (mt1 (mt1 (mt1 mh)))))
      have cd8 := H.cell (w5.heap.size) 8 (.slice aD c.nd cD) (mt8 (mt8 (mt8 (mt1 (mt1 (mt1 (mt1 mh)))))))
      have ld := H.lt (w5.heap.size) 0 (.bool (c.o 0)) (mt8 (mt8 (mt1 (mt1 (mt1 (mt1 (mt1 mh)))))))
      go_wp2_with fail
      clear cd0 cd1 cd2 cd3 cd4 cd5 cd6 cd7 cd8 ld
      (with_reducible refine (pis K c r aN cN aD cD n false _ (H.factsV (mt32 (mt32 (mt32 (mt8 (mt1 (mt1 (mt1 (mt1 (mt1 (mt1 (mt1 mh)))))))))))) MP.out (H.rules (mt8 (mt8 (mt1 (mt1 mh))))) (cal_d13 (H.cal (mt32 (mt32 (mt32 (mt8 (mt1 (mt1 (mt1 (mt1 (mt1 (mt1 mh)))))))))))) ⟨fun g => absurd g (by decide), fun g => absurd g HQ.out⟩).mono ?_)
      rintro e w43 ⟨rfl, hb⟩
      replace H := H.below hb
      clear hb
      have cr0 := H.cell (w.heap.size + 2) 0 (.int .i64 r.k) (mt32 (mt1 (mt1 (mt1 (mt1 (mt1 (mt1 mh)))))))
      have cr1 := H.cell (w.heap.size + 2) 1 (.int .i64 r.m) (mt32 (mt1 (mt1 (mt1 (mt1 (mt1 (mt1 (mt1 mh))))))))
      have cr2 := H.cell (w.heap.size + 2) 2 (.int .i64 r.d) (mt32 (mt8 mh))
      have cr3 := H.cell (w.heap.size + 2) 3 (.int .i64 r.q) (mt32 (mt8 (mt1 mh)))
      have cr4 := H.cell (w.heap.size + 2) 4 (.int .i64 r.o) (mt32 (mt8 (mt1 (mt1 mh))))
      have cr5 := H.cell (w.heap.size + 2) 5 (.int .i64 r.s) (mt32 (mt8 (mt1 (mt1 (mt1 mh)))))
      have cr6 := H.cell (w.heap.size + 2) 6 (.int .i64 r.f) (mt32 (mt8 (mt1 (mt1 (mt1 (mt1 mh))))))
      have cr7 := H.cell (w.heap.size + 2) 7 (.int .i64 r.t) (mt32 (mt8 (mt1 (mt1 (mt1 (mt1 (mt1 mh)))))))
      have lr := H.lt (w.heap.size + 2) 0 (.int .i64 r.k) (mt32 (mt1 (mt1 (mt1 (mt1 (mt1 (mt1 mh)))))))
      go_wp2_with fail
      clear cr0 cr1 cr2 cr3 cr4 cr5 cr6 cr7 lr
      (with_reducible refine (ruis_any r.k r.m r.d r.q r.o r.s r.f r.t n true _ MR.out ⟨fun _ => HX.out, fun _ => rfl⟩).mono ?_)
      rintro e w44 ⟨rfl, hb⟩
      replace H := H.below hb
      clear hb
      have cf0 := H.cell (W9.heap.size) 0 (.bool (c.o 0)) mh
      have cf1 := H.cell (W9.heap.size) 1 (.bool (c.o 1)) (mt1 mh)
      have cf2 := H.cell (W9.heap.size) 2 (.bool (c.o 2)) (mt1 (mt1 mh))
      have cf3 := H.cell (W9.heap.size) 3 (.bool (c.o 3)) (mt1 (mt1 (mt1 mh)))
      have cf4 := H.cell (W9.heap.size) 4 (.bool (c.o 4)) (mt1 (mt1 (mt1 (mt1 mh))))
      have cf5 := H.cell (W9.heap.size) 5 (.bool (c.o 5)) (mt1 (mt1 (mt1 (mt1 (mt1 mh)))))
      have cf6 := H.cell (W9.heap.size) 6 (.bool true) (mt1 (mt1 (mt1 (mt1 (mt1 (mt1 mh))))))
      have cf7 := H.cell (W9.heap.size) 7 (.slice aR c.nr cR) (mt1 (mt1 (mt1 (mt1 (mt1 (mt1 (mt1 mh)))))))
      have cf8 := H.cell (W9.heap.size) 8 (.slice aD c.nd cD) (mt8 mh)
      have lf := H.lt (W9.heap.size) 0 (.bool (c.o 0)) mh
      go_wp2_with fail
      clear cf0 cf1 cf2 cf3 cf4 cf5 cf6 cf7 cf8 lf
      (with_reducible refine (rof6 c aR cR aD cD u6 _ HZ.out (H.cal (mt32 (mt32 (mt32 (mt8 (mt1 (mt1 (mt1 (mt1 (mt1 (mt1 mh))))))))))) HU6.out).mono ?_)
      rintro e w45 ⟨rfl, hb⟩
      replace H := H.below hb
      clear hb
      cases u6 with
      | false =>
        go_wp2_with fail
        go_ret
        exact ⟨rfl, H.old⟩
      | true =>
        have cf0 := H.cell (W9.heap.size) 0 (.bool (c.o 0)) mh
        have cf1 := H.cell (W9.heap.size) 1 (.bool (c.o 1)) (mt1 mh)
        have cf2 := H.cell (W9.heap.size) 2 (.bool (c.o 2)) (mt1 (mt1 mh))
        have cf3 := H.cell (W9.heap.size) 3 (.bool (c.o 3)) (mt1 (mt1 (mt1 mh)))
        have cf4 := H.cell (W9.heap.size) 4 (.bool (c.o 4)) (mt1 (mt1 (mt1 (mt1 mh))))
        have cf5 := H.cell (W9.heap.size) 5 (.bool (c.o 5)) (mt1 (mt1 (mt1 (mt1 (mt1 mh)))))
        have cf6 := H.cell (W9.heap.size) 6 (.bool true) (mt1 (mt1 (mt1 (mt1 (mt1 (mt1 mh))))))
        have cf7 := H.cell (W9.heap.size) 7 (.slice aR c.nr cR) (mt1 (mt1 (mt1 (mt1 (mt1 (mt1 (mt1 mh)))))))
        have cf8 := H.cell (W9.heap.size) 8 (.slice aD c.nd cD) (mt8 mh)
        have lf := H.lt (W9.heap.size) 0 (.bool (c.o 0)) mh
        go_wp2_with fail
        clear cf0 cf1 cf2 cf3 cf4 cf5 cf6 cf7 cf8 lf
        (with_reducible refine (kof6 K c aR cR aD cD n ((v : Int) != 6) _ (H.factsV (mt32 (mt32 (mt32 (mt8 (mt1 (mt1 (mt1 (mt1 (mt1 (mt1 (mt1 mh)))))))))))) (HU6.out.1 (by first | rfl | trivial)) (H.cal (mt32 (mt32 (mt32 (mt8 (mt1 (mt1 (mt1 (mt1 (mt1 (mt1 mh))))))))))) (HW6.out)).mono ?_)
        rintro e w46 ⟨rfl, hb⟩
        replace H := H.below hb
        clear hb
        go_wp2_with fail
        (with_reducible refine (rweek_is n v _ HV.out).mono ?_)
        rintro e w47 ⟨rfl, hb⟩
        replace H := H.below hb
        clear hb
        go_wp2_with fail
        go_ret
        exact ⟨rfl, H.old⟩)
  have Z101 : Hid (∀ (W : World) (g0 : Nat) (g1 : Nat), Below W0.heap.size W0 W → W.ownsRow W0.heap.size 51 8 (.slice (some ⟨g0, 0, none⟩) 0 0) 0 [] → Row13 W 8 (some ⟨g1, 0, none⟩) 1 (rc r) → g1 < W.heap.size → g1 ≠ g0 → G 4 #[true, true, true, false, true, true, false, false, false] (Act.put (Act.put A (some 41) (.slice (some ⟨g0, 0, none⟩) 0 0)) (some 46) (.slice (some ⟨g1, 0, none⟩) 1 1)) W) := Lib.hid (by
    intro W g0 g1 B o0 rr lg ng
    have H : Held w (.is (w5.heap.size) 7 :: .cell (w5.heap.size) 0 (.bool (c.o 0)) :: .cell (w5.heap.size) 1 (.bool (c.o 1)) :: .cell (w5.heap.size) 2 (.bool (c.o 2)) :: .cell (w5.heap.size) 3 (.bool (c.o 3)) :: .cell (w5.heap.size) 4 (.bool (c.o 4)) :: .cell (w5.heap.size) 5 (.bool (c.o 5)) :: .cell (w5.heap.size) 6 (.bool (c.o 6)) :: .cell (w5.heap.size) 8 (.slice aD c.nd cD) :: .free (w5.heap.size) 0 :: .free (w5.heap.size) 1 :: .free (w5.heap.size) 2 :: .free (w5.heap.size) 3 :: .free (w5.heap.size) 4 :: .free (w5.heap.size) 5 :: .free (w5.heap.size) 6 :: .free (w5.heap.size) 7 :: .free (w5.heap.size) 8 :: .cell (w.heap.size + 2) 0 (.int .i64 r.k) :: .cell (w.heap.size + 2) 1 (.int .i64 r.m) :: .cell (w.heap.size + 2) 2 (.int .i64 r.d) :: .cell (w.heap.size + 2) 3 (.int .i64 r.q) :: .cell (w.heap.size + 2) 4 (.int .i64 r.o) :: .cell (w.heap.size + 2) 5 (.int .i64 r.s) :: .cell (w.heap.size + 2) 6 (.int .i64 r.f) :: .cell (w.heap.size + 2) 7 (.int .i64 r.t) :: .free (w.heap.size + 2) 0 :: .free (w.heap.size + 2) 1 :: .free (w.heap.size + 2) 2 :: .free (w.heap.size + 2) 3 :: .free (w.heap.size + 2) 4 :: .free (w.heap.size + 2) 5 :: .free (w.heap.size + 2) 6 :: .free (w.heap.size + 2) 7 :: .cell (w.heap.size + 1) 0 (.bool (c.o 0)) :: .cell (w.heap.size + 1) 1 (.bool (c.o 1)) :: .cell (w.heap.size + 1) 2 (.bool (c.o 2)) :: .cell (w.heap.size + 1) 3 (.bool (c.o 3)) :: .cell (w.heap.size + 1) 4 (.bool (c.o 4)) :: .cell (w.heap.size + 1) 5 (.bool (c.o 5)) :: .cell (w.heap.size + 1) 6 (.bool (c.o 6)) :: .cell (w.heap.size + 1) 7 (.slice aR c.nr cR) :: .cell (w.heap.size + 1) 8 (.slice aD c.nd cD) :: .free (w.heap.size + 1) 0 :: .free (w.heap.size + 1) 1 :: .free (w.heap.size + 1) 2 :: .free (w.heap.size + 1) 3 :: .free (w.heap.size + 1) 4 :: .free (w.heap.size + 1) 5 :: .free (w.heap.size + 1) 6 :: .free (w.heap.size + 1) 7 :: .free (w.heap.size + 1) 8 :: .cell (w.heap.size) 0 (.bool (c.o 0)) :: .cell (w.heap.size) 1 (.bool (c.o 1)) :: .cell (w.heap.size) 2 (.bool (c.o 2)) :: .cell (w.heap.size) 3 (.bool (c.o 3)) :: .cell (w.heap.size) 4 (.bool (c.o 4)) :: .cell (w.heap.size) 5 (.bool (c.o 5)) :: .cell (w.heap.size) 6 (.bool (c.o 6)) :: .cell (w.heap.size) 7 (.slice aR c.nr cR) :: .cell (w.heap.size) 8 (.slice aD c.nd cD) :: .cell (w.heap.size) 9 (.int .i64 r.k) :: .cell (w.heap.size) 10 (.int .i64 r.m) :: .cell (w.heap.size) 11 (.int .i64 r.d) :: .cell (w.heap.size) 12 (.int .i64 r.q) :: .cell (w.heap.size) 13 (.int .i64 r.o) :: .cell (w.heap.size) 14 (.int .i64 r.s) :: .cell (w.heap.size) 15 (.int .i64 r.f) :: .cell (w.heap.size) 16 (.int .i64 r.t) :: .cell (w.heap.size) 17 (.int .u8 z) :: .cell (w.heap.size) 18 (.int .i64 n) :: .free (w.heap.size) 0 :: .free (w.heap.size) 1 :: .free (w.heap.size) 2 :: .free (w.heap.size) 3 :: .free (w.heap.size) 4 :: .free (w.heap.size) 5 :: .free (w.heap.size) 6 :: .free (w.heap.size) 7 :: .free (w.heap.size) 8 :: .free (w.heap.size) 9 :: .free (w.heap.size) 10 :: .free (w.heap.size) 11 :: .free (w.heap.size) 12 :: .free (w.heap.size) 13 :: .free (w.heap.size) 14 :: .free (w.heap.size) 15 :: .free (w.heap.size) 16 :: .free (w.heap.size) 17 :: .free (w.heap.size) 18 :: calF c aR cR aD cD :: factsVF :: []) W := H0.out.below B
    rw [HG.out, HA.out]
    (try simp only [Act.put, List.setIfInBounds_toArray, List.set_cons_zero, List.set_cons_succ])
    refine wpAnyH_ready (rs := [3]) (by kernel_rfl) (by simp) ?_
    refine AllReadyH.cons (o := ⟨some 44, _, _, _, _, _⟩) rfl (fun KK hK => ?_) AllReadyH.nil
    obtain ⟨v1, w1, hr, ho, hg⟩ := app13 W0.heap.size 23 23 51 i0 (.agg #[.int .i64 0, .int .i64 0, .int .i64 0, .int .i64 0, .int .i64 0, .int .i64 0, .int .i64 0, .int .i64 0]) 8 64 Tryd.underlying23 hi hz0 hz1 hz2 rfl (by decide) _ _ _ o0 aR c.nr cR (rl c.R c.nr) (RC.out.below B) (by omega) (by decide) B.size
    rw [Nat.zero_add, List.nil_append] at ho
    have B2 := B.trans (grown_own B.size o0 hg)
    have z := Lib.hid (Z111.out w1 g0 v1 g1 B2 ho (rr.grown hg (fun e => ng (Option.some.inj e))) (Nat.lt_of_lt_of_le lg hg.4))
    refine Lib.wp_append_run _ (.tmp 41) (.tmp 43) 23 23 rfl _ _ rfl rfl _ _ hr ?_
    refine hK.out _ _ (KS.out _ (H0.out.below B2)) (fun _ => ?_)
    clear hK KK
    replace z := z.out
    (try simp only [Act.put, List.setIfInBounds_toArray, List.set_cons_zero, List.set_cons_succ])
    rw [HG.out, HA.out] at z
    (try simp only [Act.put, List.setIfInBounds_toArray, List.set_cons_zero, List.set_cons_succ] at z)
    exact z)
  have Z110 : Hid (∀ (W : World) (g0 : Nat) (v1 : Value), Below W0.heap.size W0 W → W.ownsRow W0.heap.size 51 8 v1 c.nr (rl c.R c.nr) → G 4 #[true, true, true, true, true, false, false, false, false] (Act.put (Act.put A (some 41) (.slice (some ⟨g0, 0, none⟩) 0 0)) (some 44) v1) W) := Lib.hid (by
    intro W g0 v1 B o1
    have H : Held w (.is (w5.heap.size) 7 :: .cell (w5.heap.size) 0 (.bool (c.o 0)) :: .cell (w5.heap.size) 1 (.bool (c.o 1)) :: .cell (w5.heap.size) 2 (.bool (c.o 2)) :: .cell (w5.heap.size) 3 (.bool (c.o 3)) :: .cell (w5.heap.size) 4 (.bool (c.o 4)) :: .cell (w5.heap.size) 5 (.bool (c.o 5)) :: .cell (w5.heap.size) 6 (.bool (c.o 6)) :: .cell (w5.heap.size) 8 (.slice aD c.nd cD) :: .free (w5.heap.size) 0 :: .free (w5.heap.size) 1 :: .free (w5.heap.size) 2 :: .free (w5.heap.size) 3 :: .free (w5.heap.size) 4 :: .free (w5.heap.size) 5 :: .free (w5.heap.size) 6 :: .free (w5.heap.size) 7 :: .free (w5.heap.size) 8 :: .cell (w.heap.size + 2) 0 (.int .i64 r.k) :: .cell (w.heap.size + 2) 1 (.int .i64 r.m) :: .cell (w.heap.size + 2) 2 (.int .i64 r.d) :: .cell (w.heap.size + 2) 3 (.int .i64 r.q) :: .cell (w.heap.size + 2) 4 (.int .i64 r.o) :: .cell (w.heap.size + 2) 5 (.int .i64 r.s) :: .cell (w.heap.size + 2) 6 (.int .i64 r.f) :: .cell (w.heap.size + 2) 7 (.int .i64 r.t) :: .free (w.heap.size + 2) 0 :: .free (w.heap.size + 2) 1 :: .free (w.heap.size + 2) 2 :: .free (w.heap.size + 2) 3 :: .free (w.heap.size + 2) 4 :: .free (w.heap.size + 2) 5 :: .free (w.heap.size + 2) 6 :: .free (w.heap.size + 2) 7 :: .cell (w.heap.size + 1) 0 (.bool (c.o 0)) :: .cell (w.heap.size + 1) 1 (.bool (c.o 1)) :: .cell (w.heap.size + 1) 2 (.bool (c.o 2)) :: .cell (w.heap.size + 1) 3 (.bool (c.o 3)) :: .cell (w.heap.size + 1) 4 (.bool (c.o 4)) :: .cell (w.heap.size + 1) 5 (.bool (c.o 5)) :: .cell (w.heap.size + 1) 6 (.bool (c.o 6)) :: .cell (w.heap.size + 1) 7 (.slice aR c.nr cR) :: .cell (w.heap.size + 1) 8 (.slice aD c.nd cD) :: .free (w.heap.size + 1) 0 :: .free (w.heap.size + 1) 1 :: .free (w.heap.size + 1) 2 :: .free (w.heap.size + 1) 3 :: .free (w.heap.size + 1) 4 :: .free (w.heap.size + 1) 5 :: .free (w.heap.size + 1) 6 :: .free (w.heap.size + 1) 7 :: .free (w.heap.size + 1) 8 :: .cell (w.heap.size) 0 (.bool (c.o 0)) :: .cell (w.heap.size) 1 (.bool (c.o 1)) :: .cell (w.heap.size) 2 (.bool (c.o 2)) :: .cell (w.heap.size) 3 (.bool (c.o 3)) :: .cell (w.heap.size) 4 (.bool (c.o 4)) :: .cell (w.heap.size) 5 (.bool (c.o 5)) :: .cell (w.heap.size) 6 (.bool (c.o 6)) :: .cell (w.heap.size) 7 (.slice aR c.nr cR) :: .cell (w.heap.size) 8 (.slice aD c.nd cD) :: .cell (w.heap.size) 9 (.int .i64 r.k) :: .cell (w.heap.size) 10 (.int .i64 r.m) :: .cell (w.heap.size) 11 (.int .i64 r.d) :: .cell (w.heap.size) 12 (.int .i64 r.q) :: .cell (w.heap.size) 13 (.int .i64 r.o) :: .cell (w.heap.size) 14 (.int .i64 r.s) :: .cell (w.heap.size) 15 (.int .i64 r.f) :: .cell (w.heap.size) 16 (.int .i64 r.t) :: .cell (w.heap.size) 17 (.int .u8 z) :: .cell (w.heap.size) 18 (.int .i64 n) :: .free (w.heap.size) 0 :: .free (w.heap.size) 1 :: .free (w.heap.size) 2 :: .free (w.heap.size) 3 :: .free (w.heap.size) 4 :: .free (w.heap.size) 5 :: .free (w.heap.size) 6 :: .free (w.heap.size) 7 :: .free (w.heap.size) 8 :: .free (w.heap.size) 9 :: .free (w.heap.size) 10 :: .free (w.heap.size) 11 :: .free (w.heap.size) 12 :: .free (w.heap.size) 13 :: .free (w.heap.size) 14 :: .free (w.heap.size) 15 :: .free (w.heap.size) 16 :: .free (w.heap.size) 17 :: .free (w.heap.size) 18 :: calF c aR cR aD cD :: factsVF :: []) W := H0.out.below B
    rw [HG.out, HA.out]
    (try simp only [Act.put, List.setIfInBounds_toArray, List.set_cons_zero, List.set_cons_succ])
    refine wpAnyH_ready (rs := [5]) (by kernel_rfl) (by simp) ?_
    refine AllReadyH.cons (o := ⟨some 46, _, _, _, _, _⟩) rfl (fun KK hK => ?_) AllReadyH.nil
    have z := Lib.hid (Z111.out (W.alloc (.cells #[.int .i64 r.k, .int .i64 r.m, .int .i64 r.d, .int .i64 r.q, .int .i64 r.o, .int .i64 r.s, .int .i64 r.f, .int .i64 r.t] 51)) g0 v1 W.heap.size (B.alloc B.size _) (o1.alloc _) (row_new W r) (by simp))
    go_wp2_with fail
    refine hK.out _ _ (KS.out _ (H.alloc _)) (fun _ => ?_)
    clear hK KK
    replace z := z.out
    (try simp only [Act.put, List.setIfInBounds_toArray, List.set_cons_zero, List.set_cons_succ])
    rw [HG.out, HA.out] at z
    (try simp only [Act.put, List.setIfInBounds_toArray, List.set_cons_zero, List.set_cons_succ] at z)
    exact z)
  have Z001 : Hid (∀ (W : World) (g1 : Nat), Below W0.heap.size W0 W → Row13 W 8 (some ⟨g1, 0, none⟩) 1 (rc r) → g1 < W.heap.size → G 5 #[false, true, true, false, true, true, false, false, false] (Act.put A (some 46) (.slice (some ⟨g1, 0, none⟩) 1 1)) W) := Lib.hid (by
    intro W g1 B rr lg
    have H : Held w (.is (w5.heap.size) 7 :: .cell (w5.heap.size) 0 (.bool (c.o 0)) :: .cell (w5.heap.size) 1 (.bool (c.o 1)) :: .cell (w5.heap.size) 2 (.bool (c.o 2)) :: .cell (w5.heap.size) 3 (.bool (c.o 3)) :: .cell (w5.heap.size) 4 (.bool (c.o 4)) :: .cell (w5.heap.size) 5 (.bool (c.o 5)) :: .cell (w5.heap.size) 6 (.bool (c.o 6)) :: .cell (w5.heap.size) 8 (.slice aD c.nd cD) :: .free (w5.heap.size) 0 :: .free (w5.heap.size) 1 :: .free (w5.heap.size) 2 :: .free (w5.heap.size) 3 :: .free (w5.heap.size) 4 :: .free (w5.heap.size) 5 :: .free (w5.heap.size) 6 :: .free (w5.heap.size) 7 :: .free (w5.heap.size) 8 :: .cell (w.heap.size + 2) 0 (.int .i64 r.k) :: .cell (w.heap.size + 2) 1 (.int .i64 r.m) :: .cell (w.heap.size + 2) 2 (.int .i64 r.d) :: .cell (w.heap.size + 2) 3 (.int .i64 r.q) :: .cell (w.heap.size + 2) 4 (.int .i64 r.o) :: .cell (w.heap.size + 2) 5 (.int .i64 r.s) :: .cell (w.heap.size + 2) 6 (.int .i64 r.f) :: .cell (w.heap.size + 2) 7 (.int .i64 r.t) :: .free (w.heap.size + 2) 0 :: .free (w.heap.size + 2) 1 :: .free (w.heap.size + 2) 2 :: .free (w.heap.size + 2) 3 :: .free (w.heap.size + 2) 4 :: .free (w.heap.size + 2) 5 :: .free (w.heap.size + 2) 6 :: .free (w.heap.size + 2) 7 :: .cell (w.heap.size + 1) 0 (.bool (c.o 0)) :: .cell (w.heap.size + 1) 1 (.bool (c.o 1)) :: .cell (w.heap.size + 1) 2 (.bool (c.o 2)) :: .cell (w.heap.size + 1) 3 (.bool (c.o 3)) :: .cell (w.heap.size + 1) 4 (.bool (c.o 4)) :: .cell (w.heap.size + 1) 5 (.bool (c.o 5)) :: .cell (w.heap.size + 1) 6 (.bool (c.o 6)) :: .cell (w.heap.size + 1) 7 (.slice aR c.nr cR) :: .cell (w.heap.size + 1) 8 (.slice aD c.nd cD) :: .free (w.heap.size + 1) 0 :: .free (w.heap.size + 1) 1 :: .free (w.heap.size + 1) 2 :: .free (w.heap.size + 1) 3 :: .free (w.heap.size + 1) 4 :: .free (w.heap.size + 1) 5 :: .free (w.heap.size + 1) 6 :: .free (w.heap.size + 1) 7 :: .free (w.heap.size + 1) 8 :: .cell (w.heap.size) 0 (.bool (c.o 0)) :: .cell (w.heap.size) 1 (.bool (c.o 1)) :: .cell (w.heap.size) 2 (.bool (c.o 2)) :: .cell (w.heap.size) 3 (.bool (c.o 3)) :: .cell (w.heap.size) 4 (.bool (c.o 4)) :: .cell (w.heap.size) 5 (.bool (c.o 5)) :: .cell (w.heap.size) 6 (.bool (c.o 6)) :: .cell (w.heap.size) 7 (.slice aR c.nr cR) :: .cell (w.heap.size) 8 (.slice aD c.nd cD) :: .cell (w.heap.size) 9 (.int .i64 r.k) :: .cell (w.heap.size) 10 (.int .i64 r.m) :: .cell (w.heap.size) 11 (.int .i64 r.d) :: .cell (w.heap.size) 12 (.int .i64 r.q) :: .cell (w.heap.size) 13 (.int .i64 r.o) :: .cell (w.heap.size) 14 (.int .i64 r.s) :: .cell (w.heap.size) 15 (.int .i64 r.f) :: .cell (w.heap.size) 16 (.int .i64 r.t) :: .cell (w.heap.size) 17 (.int .u8 z) :: .cell (w.heap.size) 18 (.int .i64 n) :: .free (w.heap.size) 0 :: .free (w.heap.size) 1 :: .free (w.heap.size) 2 :: .free (w.heap.size) 3 :: .free (w.heap.size) 4 :: .free (w.heap.size) 5 :: .free (w.heap.size) 6 :: .free (w.heap.size) 7 :: .free (w.heap.size) 8 :: .free (w.heap.size) 9 :: .free (w.heap.size) 10 :: .free (w.heap.size) 11 :: .free (w.heap.size) 12 :: .free (w.heap.size) 13 :: .free (w.heap.size) 14 :: .free (w.heap.size) 15 :: .free (w.heap.size) 16 :: .free (w.heap.size) 17 :: .free (w.heap.size) 18 :: calF c aR cR aD cD :: factsVF :: []) W := H0.out.below B
    rw [HG.out, HA.out]
    (try simp only [Act.put, List.setIfInBounds_toArray, List.set_cons_zero, List.set_cons_succ])
    refine wpAnyH_ready (rs := [0]) (by kernel_rfl) (by simp) ?_
    refine AllReadyH.cons (o := ⟨some 41, _, _, _, _, _⟩) rfl (fun KK hK => ?_) AllReadyH.nil
    have z := Lib.hid (Z101.out (W.alloc (.cells #[] 51)) W.heap.size g1 (B.alloc B.size _) (World.ownsRow_made W #[] 0 B.size (Nat.zero_le _) rfl) (rr.alloc _) (by simp; omega) (Nat.ne_of_lt lg))
    go_wp2_with fail
    refine hK.out _ _ (KS.out _ (H.alloc _)) (fun _ => ?_)
    clear hK KK
    replace z := z.out
    (try simp only [Act.put, List.setIfInBounds_toArray, List.set_cons_zero, List.set_cons_succ])
    rw [HG.out, HA.out] at z
    (try simp only [Act.put, List.setIfInBounds_toArray, List.set_cons_zero, List.set_cons_succ] at z)
    exact z)
  have Z100 : Hid (∀ (W : World) (g0 : Nat), Below W0.heap.size W0 W → W.ownsRow W0.heap.size 51 8 (.slice (some ⟨g0, 0, none⟩) 0 0) 0 [] → G 5 #[true, true, true, false, true, false, false, false, false] (Act.put A (some 41) (.slice (some ⟨g0, 0, none⟩) 0 0)) W) := Lib.hid (by
    intro W g0 B o0
    have H : Held w (.is (w5.heap.size) 7 :: .cell (w5.heap.size) 0 (.bool (c.o 0)) :: .cell (w5.heap.size) 1 (.bool (c.o 1)) :: .cell (w5.heap.size) 2 (.bool (c.o 2)) :: .cell (w5.heap.size) 3 (.bool (c.o 3)) :: .cell (w5.heap.size) 4 (.bool (c.o 4)) :: .cell (w5.heap.size) 5 (.bool (c.o 5)) :: .cell (w5.heap.size) 6 (.bool (c.o 6)) :: .cell (w5.heap.size) 8 (.slice aD c.nd cD) :: .free (w5.heap.size) 0 :: .free (w5.heap.size) 1 :: .free (w5.heap.size) 2 :: .free (w5.heap.size) 3 :: .free (w5.heap.size) 4 :: .free (w5.heap.size) 5 :: .free (w5.heap.size) 6 :: .free (w5.heap.size) 7 :: .free (w5.heap.size) 8 :: .cell (w.heap.size + 2) 0 (.int .i64 r.k) :: .cell (w.heap.size + 2) 1 (.int .i64 r.m) :: .cell (w.heap.size + 2) 2 (.int .i64 r.d) :: .cell (w.heap.size + 2) 3 (.int .i64 r.q) :: .cell (w.heap.size + 2) 4 (.int .i64 r.o) :: .cell (w.heap.size + 2) 5 (.int .i64 r.s) :: .cell (w.heap.size + 2) 6 (.int .i64 r.f) :: .cell (w.heap.size + 2) 7 (.int .i64 r.t) :: .free (w.heap.size + 2) 0 :: .free (w.heap.size + 2) 1 :: .free (w.heap.size + 2) 2 :: .free (w.heap.size + 2) 3 :: .free (w.heap.size + 2) 4 :: .free (w.heap.size + 2) 5 :: .free (w.heap.size + 2) 6 :: .free (w.heap.size + 2) 7 :: .cell (w.heap.size + 1) 0 (.bool (c.o 0)) :: .cell (w.heap.size + 1) 1 (.bool (c.o 1)) :: .cell (w.heap.size + 1) 2 (.bool (c.o 2)) :: .cell (w.heap.size + 1) 3 (.bool (c.o 3)) :: .cell (w.heap.size + 1) 4 (.bool (c.o 4)) :: .cell (w.heap.size + 1) 5 (.bool (c.o 5)) :: .cell (w.heap.size + 1) 6 (.bool (c.o 6)) :: .cell (w.heap.size + 1) 7 (.slice aR c.nr cR) :: .cell (w.heap.size + 1) 8 (.slice aD c.nd cD) :: .free (w.heap.size + 1) 0 :: .free (w.heap.size + 1) 1 :: .free (w.heap.size + 1) 2 :: .free (w.heap.size + 1) 3 :: .free (w.heap.size + 1) 4 :: .free (w.heap.size + 1) 5 :: .free (w.heap.size + 1) 6 :: .free (w.heap.size + 1) 7 :: .free (w.heap.size + 1) 8 :: .cell (w.heap.size) 0 (.bool (c.o 0)) :: .cell (w.heap.size) 1 (.bool (c.o 1)) :: .cell (w.heap.size) 2 (.bool (c.o 2)) :: .cell (w.heap.size) 3 (.bool (c.o 3)) :: .cell (w.heap.size) 4 (.bool (c.o 4)) :: .cell (w.heap.size) 5 (.bool (c.o 5)) :: .cell (w.heap.size) 6 (.bool (c.o 6)) :: .cell (w.heap.size) 7 (.slice aR c.nr cR) :: .cell (w.heap.size) 8 (.slice aD c.nd cD) :: .cell (w.heap.size) 9 (.int .i64 r.k) :: .cell (w.heap.size) 10 (.int .i64 r.m) :: .cell (w.heap.size) 11 (.int .i64 r.d) :: .cell (w.heap.size) 12 (.int .i64 r.q) :: .cell (w.heap.size) 13 (.int .i64 r.o) :: .cell (w.heap.size) 14 (.int .i64 r.s) :: .cell (w.heap.size) 15 (.int .i64 r.f) :: .cell (w.heap.size) 16 (.int .i64 r.t) :: .cell (w.heap.size) 17 (.int .u8 z) :: .cell (w.heap.size) 18 (.int .i64 n) :: .free (w.heap.size) 0 :: .free (w.heap.size) 1 :: .free (w.heap.size) 2 :: .free (w.heap.size) 3 :: .free (w.heap.size) 4 :: .free (w.heap.size) 5 :: .free (w.heap.size) 6 :: .free (w.heap.size) 7 :: .free (w.heap.size) 8 :: .free (w.heap.size) 9 :: .free (w.heap.size) 10 :: .free (w.heap.size) 11 :: .free (w.heap.size) 12 :: .free (w.heap.size) 13 :: .free (w.heap.size) 14 :: .free (w.heap.size) 15 :: .free (w.heap.size) 16 :: .free (w.heap.size) 17 :: .free (w.heap.size) 18 :: calF c aR cR aD cD :: factsVF :: []) W := H0.out.below B
    rw [HG.out, HA.out]
    (try simp only [Act.put, List.setIfInBounds_toArray, List.set_cons_zero, List.set_cons_succ])
    refine wpAnyH_ready (rs := [3, 5]) (by kernel_rfl) (by simp) ?_
    refine AllReadyH.cons (o := ⟨some 44, _, _, _, _, _⟩) rfl (fun KK hK => ?_) ?_
    · skip
      obtain ⟨v1, w1, hr, ho, hg⟩ := app13 W0.heap.size 23 23 51 i0 (.agg #[.int .i64 0, .int .i64 0, .int .i64 0, .int .i64 0, .int .i64 0, .int .i64 0, .int .i64 0, .int .i64 0]) 8 64 Tryd.underlying23 hi hz0 hz1 hz2 rfl (by decide) _ _ _ o0 aR c.nr cR (rl c.R c.nr) (RC.out.below B) (by omega) (by decide) B.size
      rw [Nat.zero_add, List.nil_append] at ho
      have B2 := B.trans (grown_own B.size o0 hg)
      have z := Lib.hid (Z110.out w1 g0 v1 B2 ho)
      refine Lib.wp_append_run _ (.tmp 41) (.tmp 43) 23 23 rfl _ _ rfl rfl _ _ hr ?_
      refine hK.out _ _ (KS.out _ (H0.out.below B2)) (fun _ => ?_)
      clear hK KK
      replace z := z.out
      (try simp only [Act.put, List.setIfInBounds_toArray, List.set_cons_zero, List.set_cons_succ])
      rw [HG.out, HA.out] at z
      (try simp only [Act.put, List.setIfInBounds_toArray, List.set_cons_zero, List.set_cons_succ] at z)
      exact z
    refine AllReadyH.cons (o := ⟨some 46, _, _, _, _, _⟩) rfl (fun KK hK => ?_) AllReadyH.nil
    have z := Lib.hid (Z101.out (W.alloc (.cells #[.int .i64 r.k, .int .i64 r.m, .int .i64 r.d, .int .i64 r.q, .int .i64 r.o, .int .i64 r.s, .int .i64 r.f, .int .i64 r.t] 51)) g0 W.heap.size (B.alloc B.size _) (o0.alloc _) (row_new W r) (by simp) (Nat.ne_of_gt (World.ownsRow.lt o0 g0 rfl).2))
    go_wp2_with fail
    refine hK.out _ _ (KS.out _ (H.alloc _)) (fun _ => ?_)
    clear hK KK
    replace z := z.out
    (try simp only [Act.put, List.setIfInBounds_toArray, List.set_cons_zero, List.set_cons_succ])
    rw [HG.out, HA.out] at z
    (try simp only [Act.put, List.setIfInBounds_toArray, List.set_cons_zero, List.set_cons_succ] at z)
    exact z)
  have Z000 : Hid (∀ (W : World), Below W0.heap.size W0 W → G 6 #[false, true, true, false, true, false, false, false, false] A W) := Lib.hid (by
    intro W B
    have H : Held w (.is (w5.heap.size) 7 :: .cell (w5.heap.size) 0 (.bool (c.o 0)) :: .cell (w5.heap.size) 1 (.bool (c.o 1)) :: .cell (w5.heap.size) 2 (.bool (c.o 2)) :: .cell (w5.heap.size) 3 (.bool (c.o 3)) :: .cell (w5.heap.size) 4 (.bool (c.o 4)) :: .cell (w5.heap.size) 5 (.bool (c.o 5)) :: .cell (w5.heap.size) 6 (.bool (c.o 6)) :: .cell (w5.heap.size) 8 (.slice aD c.nd cD) :: .free (w5.heap.size) 0 :: .free (w5.heap.size) 1 :: .free (w5.heap.size) 2 :: .free (w5.heap.size) 3 :: .free (w5.heap.size) 4 :: .free (w5.heap.size) 5 :: .free (w5.heap.size) 6 :: .free (w5.heap.size) 7 :: .free (w5.heap.size) 8 :: .cell (w.heap.size + 2) 0 (.int .i64 r.k) :: .cell (w.heap.size + 2) 1 (.int .i64 r.m) :: .cell (w.heap.size + 2) 2 (.int .i64 r.d) :: .cell (w.heap.size + 2) 3 (.int .i64 r.q) :: .cell (w.heap.size + 2) 4 (.int .i64 r.o) :: .cell (w.heap.size + 2) 5 (.int .i64 r.s) :: .cell (w.heap.size + 2) 6 (.int .i64 r.f) :: .cell (w.heap.size + 2) 7 (.int .i64 r.t) :: .free (w.heap.size + 2) 0 :: .free (w.heap.size + 2) 1 :: .free (w.heap.size + 2) 2 :: .free (w.heap.size + 2) 3 :: .free (w.heap.size + 2) 4 :: .free (w.heap.size + 2) 5 :: .free (w.heap.size + 2) 6 :: .free (w.heap.size + 2) 7 :: .cell (w.heap.size + 1) 0 (.bool (c.o 0)) :: .cell (w.heap.size + 1) 1 (.bool (c.o 1)) :: .cell (w.heap.size + 1) 2 (.bool (c.o 2)) :: .cell (w.heap.size + 1) 3 (.bool (c.o 3)) :: .cell (w.heap.size + 1) 4 (.bool (c.o 4)) :: .cell (w.heap.size + 1) 5 (.bool (c.o 5)) :: .cell (w.heap.size + 1) 6 (.bool (c.o 6)) :: .cell (w.heap.size + 1) 7 (.slice aR c.nr cR) :: .cell (w.heap.size + 1) 8 (.slice aD c.nd cD) :: .free (w.heap.size + 1) 0 :: .free (w.heap.size + 1) 1 :: .free (w.heap.size + 1) 2 :: .free (w.heap.size + 1) 3 :: .free (w.heap.size + 1) 4 :: .free (w.heap.size + 1) 5 :: .free (w.heap.size + 1) 6 :: .free (w.heap.size + 1) 7 :: .free (w.heap.size + 1) 8 :: .cell (w.heap.size) 0 (.bool (c.o 0)) :: .cell (w.heap.size) 1 (.bool (c.o 1)) :: .cell (w.heap.size) 2 (.bool (c.o 2)) :: .cell (w.heap.size) 3 (.bool (c.o 3)) :: .cell (w.heap.size) 4 (.bool (c.o 4)) :: .cell (w.heap.size) 5 (.bool (c.o 5)) :: .cell (w.heap.size) 6 (.bool (c.o 6)) :: .cell (w.heap.size) 7 (.slice aR c.nr cR) :: .cell (w.heap.size) 8 (.slice aD c.nd cD) :: .cell (w.heap.size) 9 (.int .i64 r.k) :: .cell (w.heap.size) 10 (.int .i64 r.m) :: .cell (w.heap.size) 11 (.int .i64 r.d) :: .cell (w.heap.size) 12 (.int .i64 r.q) :: .cell (w.heap.size) 13 (.int .i64 r.o) :: .cell (w.heap.size) 14 (.int .i64 r.s) :: .cell (w.heap.size) 15 (.int .i64 r.f) :: .cell (w.heap.size) 16 (.int .i64 r.t) :: .cell (w.heap.size) 17 (.int .u8 z) :: .cell (w.heap.size) 18 (.int .i64 n) :: .free (w.heap.size) 0 :: .free (w.heap.size) 1 :: .free (w.heap.size) 2 :: .free (w.heap.size) 3 :: .free (w.heap.size) 4 :: .free (w.heap.size) 5 :: .free (w.heap.size) 6 :: .free (w.heap.size) 7 :: .free (w.heap.size) 8 :: .free (w.heap.size) 9 :: .free (w.heap.size) 10 :: .free (w.heap.size) 11 :: .free (w.heap.size) 12 :: .free (w.heap.size) 13 :: .free (w.heap.size) 14 :: .free (w.heap.size) 15 :: .free (w.heap.size) 16 :: .free (w.heap.size) 17 :: .free (w.heap.size) 18 :: calF c aR cR aD cD :: factsVF :: []) W := H0.out.below B
    rw [HG.out, HA.out]
    (try simp only [Act.put, List.setIfInBounds_toArray, List.set_cons_zero, List.set_cons_succ])
    refine wpAnyH_ready (rs := [0, 5]) (by kernel_rfl) (by simp) ?_
    refine AllReadyH.cons (o := ⟨some 41, _, _, _, _, _⟩) rfl (fun KK hK => ?_) ?_
    · skip
      have z := Lib.hid (Z100.out (W.alloc (.cells #[] 51)) W.heap.size (B.alloc B.size _) (World.ownsRow_made W #[] 0 B.size (Nat.zero_le _) rfl))
      go_wp2_with fail
      refine hK.out _ _ (KS.out _ (H.alloc _)) (fun _ => ?_)
      clear hK KK
      replace z := z.out
      (try simp only [Act.put, List.setIfInBounds_toArray, List.set_cons_zero, List.set_cons_succ])
      rw [HG.out, HA.out] at z
      (try simp only [Act.put, List.setIfInBounds_toArray, List.set_cons_zero, List.set_cons_succ] at z)
      exact z
    refine AllReadyH.cons (o := ⟨some 46, _, _, _, _, _⟩) rfl (fun KK hK => ?_) AllReadyH.nil
    have z := Lib.hid (Z001.out (W.alloc (.cells #[.int .i64 r.k, .int .i64 r.m, .int .i64 r.d, .int .i64 r.q, .int .i64 r.o, .int .i64 r.s, .int .i64 r.f, .int .i64 r.t] 51)) W.heap.size (B.alloc B.size _) (row_new W r) (by simp))
    go_wp2_with fail
    refine hK.out _ _ (KS.out _ (H.alloc _)) (fun _ => ?_)
    clear hK KK
    replace z := z.out
    (try simp only [Act.put, List.setIfInBounds_toArray, List.set_cons_zero, List.set_cons_succ])
    rw [HG.out, HA.out] at z
    (try simp only [Act.put, List.setIfInBounds_toArray, List.set_cons_zero, List.set_cons_succ] at z)
    exact z)
  exact Z000.out W0 (Below.refl _ _)
end Go.Proofs.YtkadodkdbopgnaaDoor
