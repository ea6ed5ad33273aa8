/- CalUnites: its calls as the walk meets them; the ends ahead. -/
import Derived.Test.YtkadodkdbopgnaaDoorCaBoth
import Derived.Test.YtkadodkdbopgnaaDoorCaUnion
import Derived.Test.YtkadodkdbopgnaaDoorCaSame
namespace Go.Proofs.YtkadodkdbopgnaaDoor
open Go.RowKit
set_option linter.unusedVariables false
set_option linter.unusedSimpArgs false

theorem rquy (a : Ca) (aRa : Option Addr) (cRa : Nat) (aDa : Option Addr) (cDa : Nat) (b : Ca) (aRb : Option Addr) (cRb : Nat) (aDb : Option Addr) (cDb : Nat) (v : World) (h : FactsV v) (ha : a.Few) (hb : b.Few) (ma : a.May) (mb : b.May) (hA : CalAt v a aRa cRa aDa cDa) (hB : CalAt v b aRb cRb aDb cDb) (hu : (a.un b).May) :
    Calls Tryd.prog 18 #[.agg #[.bool (a.o 0), .bool (a.o 1), .bool (a.o 2), .bool (a.o 3), .bool (a.o 4), .bool (a.o 5), .bool (a.o 6), .slice aRa a.nr cRa, .slice aDa a.nd cDa], .agg #[.bool (b.o 0), .bool (b.o 1), .bool (b.o 2), .bool (b.o 3), .bool (b.o 4), .bool (b.o 5), .bool (b.o 6), .slice aRb b.nr cRb, .slice aDb b.nd cDb]] v fun e w' => ∃ aR cR aD cD, e = .returned (.tuple #[.agg #[.bool (a.o 0 || b.o 0), .bool (a.o 1 || b.o 1), .bool (a.o 2 || b.o 2), .bool (a.o 3 || b.o 3), .bool (a.o 4 || b.o 4), .bool (a.o 5 || b.o 5), .bool (a.o 6 || b.o 6), .slice aR (a.un b).nr cR, .slice aD (a.un b).nd cD], .int .i64 0]) ∧ CalAt w' (a.un b) aR cR aD cD ∧ Below v.heap.size v w' :=
  (rcunion_any a aRa cRa aDa cDa b aRb cRb aDb cDb v h ha hb ma mb hA hB).mono (fun e w' he => by
    rcases he with ⟨_, aR, cR, aD, cD, g1, g2, g3⟩ | ⟨g, _⟩
    · exact ⟨aR, cR, aD, cD, g1, g2, g3⟩
    · exact absurd hu g)
theorem rqun (a : Ca) (aRa : Option Addr) (cRa : Nat) (aDa : Option Addr) (cDa : Nat) (b : Ca) (aRb : Option Addr) (cRb : Nat) (aDb : Option Addr) (cDb : Nat) (v : World) (h : FactsV v) (ha : a.Few) (hb : b.Few) (ma : a.May) (mb : b.May) (hA : CalAt v a aRa cRa aDa cDa) (hB : CalAt v b aRb cRb aDb cDb) (hu : ¬ (a.un b).May) :
    Calls Tryd.prog 18 #[.agg #[.bool (a.o 0), .bool (a.o 1), .bool (a.o 2), .bool (a.o 3), .bool (a.o 4), .bool (a.o 5), .bool (a.o 6), .slice aRa a.nr cRa, .slice aDa a.nd cDa], .agg #[.bool (b.o 0), .bool (b.o 1), .bool (b.o 2), .bool (b.o 3), .bool (b.o 4), .bool (b.o 5), .bool (b.o 6), .slice aRb b.nr cRb, .slice aDb b.nd cDb]] v fun e w' => e = .returned (.tuple #[.agg #[.bool false, .bool false, .bool false, .bool false, .bool false, .bool false, .bool false, .slice none 0 0, .slice none 0 0], .int .i64 1]) ∧ Below v.heap.size v w' :=
  (rcunion_any a aRa cRa aDa cDa b aRb cRb aDb cDb v h ha hb ma mb hA hB).mono (fun e w' he => by
    rcases he with ⟨g, _⟩ | ⟨_, g⟩
    · exact absurd g hu
    · exact g)
theorem qsame (a b : Ca) (aR : Option Addr) (cR : Nat) (aD : Option Addr) (cD : Nat) (aRx : Option Addr) (cRx : Nat) (aDx : Option Addr) (cDx : Nat) (v : World) (su : (a.un b).Small) (hC : CalAt v (a.un b) aR cR aD cD) (hX : CalAt v (a.un b) aRx cRx aDx cDx) :
    Calls Tryd.prog 21 #[.agg #[.bool (a.o 0 || b.o 0), .bool (a.o 1 || b.o 1), .bool (a.o 2 || b.o 2), .bool (a.o 3 || b.o 3), .bool (a.o 4 || b.o 4), .bool (a.o 5 || b.o 5), .bool (a.o 6 || b.o 6), .slice aR (a.un b).nr cR, .slice aD (a.un b).nd cD], .agg #[.bool (a.o 0 || b.o 0), .bool (a.o 1 || b.o 1), .bool (a.o 2 || b.o 2), .bool (a.o 3 || b.o 3), .bool (a.o 4 || b.o 4), .bool (a.o 5 || b.o 5), .bool (a.o 6 || b.o 6), .slice aRx (a.un b).nr cRx, .slice aDx (a.un b).nd cDx]] v fun e w' => e = .returned (.bool true) ∧ Below v.heap.size v w' :=
  rsame_any (a.un b) aR cR aD cD aRx cRx aDx cDx v su hC hX
theorem qzero (v : World) : Calls Tryd.prog 21 #[.agg #[.bool false, .bool false, .bool false, .bool false, .bool false, .bool false, .bool false, .slice none 0 0, .slice none 0 0], .agg #[.bool false, .bool false, .bool false, .bool false, .bool false, .bool false, .bool false, .slice none 0 0, .slice none 0 0]] v fun e w' => e = .returned (.bool true) ∧ Below v.heap.size v w' :=
  rsame_any (wcal (fun _ => false)) none 0 none 0 none 0 none 0 v (wcal_few _).small (cal_none v _ _ _) (cal_none v _ _ _)

set_option maxHeartbeats 8000000 in
set_option maxRecDepth 100000 in
theorem caunites_1 (K : CalWay) (a : Ca) (aRa : Option Addr) (cRa : Nat) (aDa : Option Addr) (cDa : Nat) (b : Ca) (aRb : Option Addr) (cRb : Nat) (aDb : Option Addr) (cDb : Nat) (n m : Int) (w : World) (hL : FactsV w) (hCa : CalAt w a aRa cRa aDa cDa) (hCb : CalAt w b aRb cRb aDb cDb) (fa : decide (a.nr ≤ 12 ∧ a.nd ≤ 60) = false) :
    Calls Tryd.prog 4 #[.agg #[.bool (a.o 0), .bool (a.o 1), .bool (a.o 2), .bool (a.o 3), .bool (a.o 4), .bool (a.o 5), .bool (a.o 6), .slice aRa a.nr cRa, .slice aDa a.nd cDa, .bool (b.o 0), .bool (b.o 1), .bool (b.o 2), .bool (b.o 3), .bool (b.o 4), .bool (b.o 5), .bool (b.o 6), .slice aRb b.nr cRb, .slice aDb b.nd cDb, .int .i64 n, .int .i64 m]] w fun e w' => e = .returned (.bool true) ∧ Below w.heap.size w w' := by
  have H := (((Held.start w).add (f := factsVF) hL).add (f := calF a aRa cRa aDa cDa) hCa).add (f := calF b aRb cRb aDb cDb) hCb
  clear hL hCa hCb
  have HFA := Lib.hid fa
  clear fa
  go_enter Tryd.func4, Tryd.ntmps4
  go_wp2_with fail
  replace H := (((H.box_20 (w.heap.size) (.bool (a.o 0)) (.bool (a.o 1)) (.bool (a.o 2)) (.bool (a.o 3)) (.bool (a.o 4)) (.bool (a.o 5)) (.bool (a.o 6)) (.slice aRa a.nr cRa) (.slice aDa a.nd cDa) (.bool (b.o 0)) (.bool (b.o 1)) (.bool (b.o 2)) (.bool (b.o 3)) (.bool (b.o 4)) (.bool (b.o 5)) (.bool (b.o 6)) (.slice aRb b.nr cRb) (.slice aDb b.nd cDb) (.int .i64 n) (.int .i64 m) 31 rfl).box_9 (w.heap.size + 1) (.bool (a.o 0)) (.bool (a.o 1)) (.bool (a.o 2)) (.bool (a.o 3)) (.bool (a.o 4)) (.bool (a.o 5)) (.bool (a.o 6)) (.slice aRa a.nr cRa) (.slice aDa a.nd cDa) 26 (by simp)).box_9 (w.heap.size + 2) (.bool (b.o 0)) (.bool (b.o 1)) (.bool (b.o 2)) (.bool (b.o 3)) (.bool (b.o 4)) (.bool (b.o 5)) (.bool (b.o 6)) (.slice aRb b.nr cRb) (.slice aDb b.nd cDb) 26 (by simp))
  (with_reducible refine (cashown_any K _ (H.factsV (mt32 (mt32 (mt8 (mt1 (mt1 (mt1 (mt1 (mt1 (mt1 mh))))))))))).mono ?_)
  rintro e w1 ⟨rfl, hb⟩
  replace H := H.below hb
  clear hb
  have ca0 := H.cell (w.heap.size + 1) 0 (.bool (a.o 0)) (mt8 (mt8 (mt1 (mt1 mh))))
  have ca1 := H.cell (w.heap.size + 1) 1 (.bool (a.o 1)) (mt8 (mt8 (mt1 (mt1 (mt1 mh)))))
  have ca2 := H.cell (w.heap.size + 1) 2 (.bool (a.o 2)) (mt8 (mt8 (mt1 (mt1 (mt1 (mt1 mh))))))
  have ca3 := H.cell (w.heap.size + 1) 3 (.bool (a.o 3)) (mt8 (mt8 (mt1 (mt1 (mt1 (mt1 (mt1 mh)))))))
  have ca4 := H.cell (w.heap.size + 1) 4 (.bool (a.o 4)) (mt8 (mt8 (mt1 (mt1 (mt1 (mt1 (mt1 (mt1 mh))))))))
  have ca5 := H.cell (w.heap.size + 1) 5 (.bool (a.o 5)) (mt8 (mt8 (mt1 (mt1 (mt1 (mt1 (mt1 (mt1 (mt1 mh)))))))))
  have ca6 := H.cell (w.heap.size + 1) 6 (.bool (a.o 6)) (mt8 (mt8 (mt8 mh)))
  have ca7 := H.cell (w.heap.size + 1) 7 (.slice aRa a.nr cRa) (mt8 (mt8 (mt8 (mt1 mh))))
  have ca8 := H.cell (w.heap.size + 1) 8 (.slice aDa a.nd cDa) (mt8 (mt8 (mt8 (mt1 (mt1 mh)))))
  have la := H.lt (w.heap.size + 1) 0 (.bool (a.o 0)) (mt8 (mt8 (mt1 (mt1 mh))))
  go_wp2_with fail
  clear ca0 ca1 ca2 ca3 ca4 ca5 ca6 ca7 ca8 la
  (with_reducible refine (few_any a aRa cRa aDa cDa false _ HFA.out).mono ?_)
  rintro e w2 ⟨rfl, hb⟩
  replace H := H.below hb
  clear hb
  go_wp2_with fail
  go_ret
  exact ⟨rfl, H.old⟩

set_option maxHeartbeats 8000000 in
set_option maxRecDepth 100000 in
theorem caunites_2 (K : CalWay) (a : Ca) (aRa : Option Addr) (cRa : Nat) (aDa : Option Addr) (cDa : Nat) (b : Ca) (aRb : Option Addr) (cRb : Nat) (aDb : Option Addr) (cDb : Nat) (n m : Int) (w : World) (hL : FactsV w) (hCa : CalAt w a aRa cRa aDa cDa) (hCb : CalAt w b aRb cRb aDb cDb) (fa : decide (a.nr ≤ 12 ∧ a.nd ≤ 60) = true) (fb : decide (b.nr ≤ 12 ∧ b.nd ≤ 60) = false) :
    Calls Tryd.prog 4 #[.agg #[.bool (a.o 0), .bool (a.o 1), .bool (a.o 2), .bool (a.o 3), .bool (a.o 4), .bool (a.o 5), .bool (a.o 6), .slice aRa a.nr cRa, .slice aDa a.nd cDa, .bool (b.o 0), .bool (b.o 1), .bool (b.o 2), .bool (b.o 3), .bool (b.o 4), .bool (b.o 5), .bool (b.o 6), .slice aRb b.nr cRb, .slice aDb b.nd cDb, .int .i64 n, .int .i64 m]] w fun e w' => e = .returned (.bool true) ∧ Below w.heap.size w w' := by
  have H := (((Held.start w).add (f := factsVF) hL).add (f := calF a aRa cRa aDa cDa) hCa).add (f := calF b aRb cRb aDb cDb) hCb
  clear hL hCa hCb
  have HFA := Lib.hid fa
  have HFB := Lib.hid fb
  clear fa fb
  go_enter Tryd.func4, Tryd.ntmps4
  go_wp2_with fail
  replace H := (((H.box_20 (w.heap.size) (.bool (a.o 0)) (.bool (a.o 1)) (.bool (a.o 2)) (.bool (a.o 3)) (.bool (a.o 4)) (.bool (a.o 5)) (.bool (a.o 6)) (.slice aRa a.nr cRa) (.slice aDa a.nd cDa) (.bool (b.o 0)) (.bool (b.o 1)) (.bool (b.o 2)) (.bool (b.o 3)) (.bool (b.o 4)) (.bool (b.o 5)) (.bool (b.o 6)) (.slice aRb b.nr cRb) (.slice aDb b.nd cDb) (.int .i64 n) (.int .i64 m) 31 rfl).box_9 (w.heap.size + 1) (.bool (a.o 0)) (.bool (a.o 1)) (.bool (a.o 2)) (.bool (a.o 3)) (.bool (a.o 4)) (.bool (a.o 5)) (.bool (a.o 6)) (.slice aRa a.nr cRa) (.slice aDa a.nd cDa) 26 (by simp)).box_9 (w.heap.size + 2) (.bool (b.o 0)) (.bool (b.o 1)) (.bool (b.o 2)) (.bool (b.o 3)) (.bool (b.o 4)) (.bool (b.o 5)) (.bool (b.o 6)) (.slice aRb b.nr cRb) (.slice aDb b.nd cDb) 26 (by simp))
  (with_reducible refine (cashown_any K _ (H.factsV (mt32 (mt32 (mt8 (mt1 (mt1 (mt1 (mt1 (mt1 (mt1 mh))))))))))).mono ?_)
  rintro e w1 ⟨rfl, hb⟩
  replace H := H.below hb
  clear hb
  have ca0 := H.cell (w.heap.size + 1) 0 (.bool (a.o 0)) (mt8 (mt8 (mt1 (mt1 mh))))
  have ca1 := H.cell (w.heap.size + 1) 1 (.bool (a.o 1)) (mt8 (mt8 (mt1 (mt1 (mt1 mh)))))
  have ca2 := H.cell (w.heap.size + 1) 2 (.bool (a.o 2)) (mt8 (mt8 (mt1 (mt1 (mt1 (mt1 mh))))))
  have ca3 := H.cell (w.heap.size + 1) 3 (.bool (a.o 3)) (mt8 (mt8 (mt1 (mt1 (mt1 (mt1 (mt1 mh)))))))
  have ca4 := H.cell (w.heap.size + 1) 4 (.bool (a.o 4)) (mt8 (mt8 (mt1 (mt1 (mt1 (mt1 (mt1 (mt1 mh))))))))
  have ca5 := H.cell (w.heap.size + 1) 5 (.bool (a.o 5)) (mt8 (mt8 (mt1 (mt1 (mt1 (mt1 (mt1 (mt1 (mt1 mh)))))))))
  have ca6 := H.cell (w.heap.size + 1) 6 (.bool (a.o 6)) (mt8 (mt8 (mt8 mh)))
  have ca7 := H.cell (w.heap.size + 1) 7 (.slice aRa a.nr cRa) (mt8 (mt8 (mt8 (mt1 mh))))
  have ca8 := H.cell (w.heap.size + 1) 8 (.slice aDa a.nd cDa) (mt8 (mt8 (mt8 (mt1 (mt1 mh)))))
  have la := H.lt (w.heap.size + 1) 0 (.bool (a.o 0)) (mt8 (mt8 (mt1 (mt1 mh))))
  go_wp2_with fail
  clear ca0 ca1 ca2 ca3 ca4 ca5 ca6 ca7 ca8 la
  (with_reducible refine (few_any a aRa cRa aDa cDa true _ HFA.out).mono ?_)
  rintro e w2 ⟨rfl, hb⟩
  replace H := H.below hb
  clear hb
  have cb0 := H.cell (w.heap.size + 2) 0 (.bool (b.o 0)) mh
  have cb1 := H.cell (w.heap.size + 2) 1 (.bool (b.o 1)) (mt1 mh)
  have cb2 := H.cell (w.heap.size + 2) 2 (.bool (b.o 2)) (mt1 (mt1 mh))
  have cb3 := H.cell (w.heap.size + 2) 3 (.bool (b.o 3)) (mt1 (mt1 (mt1 mh)))
  have cb4 := H.cell (w.heap.size + 2) 4 (.bool (b.o 4)) (mt1 (mt1 (mt1 (mt1 mh))))
  have cb5 := H.cell (w.heap.size + 2) 5 (.bool (b.o 5)) (mt1 (mt1 (mt1 (mt1 (mt1 mh)))))
  have cb6 := H.cell (w.heap.size + 2) 6 (.bool (b.o 6)) (mt1 (mt1 (mt1 (mt1 (mt1 (mt1 mh))))))
  have cb7 := H.cell (w.heap.size + 2) 7 (.slice aRb b.nr cRb) (mt1 (mt1 (mt1 (mt1 (mt1 (mt1 (mt1 mh)))))))
  have cb8 := H.cell (w.heap.size + 2) 8 (.slice aDb b.nd cDb) (mt8 mh)
  have lb := H.lt (w.heap.size + 2) 0 (.bool (b.o 0)) mh
  go_wp2_with fail
  clear cb0 cb1 cb2 cb3 cb4 cb5 cb6 cb7 cb8 lb
  (with_reducible refine (few_any b aRb cRb aDb cDb false _ HFB.out).mono ?_)
  rintro e w3 ⟨rfl, hb⟩
  replace H := H.below hb
  clear hb
  go_wp2_with fail
  go_ret
  exact ⟨rfl, H.old⟩

set_option maxHeartbeats 8000000 in
set_option maxRecDepth 100000 in
theorem caunites_3 (K : CalWay) (a : Ca) (aRa : Option Addr) (cRa : Nat) (aDa : Option Addr) (cDa : Nat) (b : Ca) (aRb : Option Addr) (cRb : Nat) (aDb : Option Addr) (cDb : Nat) (n m : Int) (w : World) (hL : FactsV w) (hCa : CalAt w a aRa cRa aDa cDa) (hCb : CalAt w b aRb cRb aDb cDb) (fa : decide (a.nr ≤ 12 ∧ a.nd ≤ 60) = true) (fb : decide (b.nr ≤ 12 ∧ b.nd ≤ 60) = true) (za : a.Small) (zb : b.Small) (ma : ¬ a.May) :
    Calls Tryd.prog 4 #[.agg #[.bool (a.o 0), .bool (a.o 1), .bool (a.o 2), .bool (a.o 3), .bool (a.o 4), .bool (a.o 5), .bool (a.o 6), .slice aRa a.nr cRa, .slice aDa a.nd cDa, .bool (b.o 0), .bool (b.o 1), .bool (b.o 2), .bool (b.o 3), .bool (b.o 4), .bool (b.o 5), .bool (b.o 6), .slice aRb b.nr cRb, .slice aDb b.nd cDb, .int .i64 n, .int .i64 m]] w fun e w' => e = .returned (.bool true) ∧ Below w.heap.size w w' := by
  have H := (((Held.start w).add (f := factsVF) hL).add (f := calF a aRa cRa aDa cDa) hCa).add (f := calF b aRb cRb aDb cDb) hCb
  clear hL hCa hCb
  have HFA := Lib.hid fa
  have HFB := Lib.hid fb
  have HZA := Lib.hid za
  have HZB := Lib.hid zb
  have MA := Lib.hid ma
  clear fa fb za zb ma
  go_enter Tryd.func4, Tryd.ntmps4
  go_wp2_with fail
  replace H := (((H.box_20 (w.heap.size) (.bool (a.o 0)) (.bool (a.o 1)) (.bool (a.o 2)) (.bool (a.o 3)) (.bool (a.o 4)) (.bool (a.o 5)) (.bool (a.o 6)) (.slice aRa a.nr cRa) (.slice aDa a.nd cDa) (.bool (b.o 0)) (.bool (b.o 1)) (.bool (b.o 2)) (.bool (b.o 3)) (.bool (b.o 4)) (.bool (b.o 5)) (.bool (b.o 6)) (.slice aRb b.nr cRb) (.slice aDb b.nd cDb) (.int .i64 n) (.int .i64 m) 31 rfl).box_9 (w.heap.size + 1) (.bool (a.o 0)) (.bool (a.o 1)) (.bool (a.o 2)) (.bool (a.o 3)) (.bool (a.o 4)) (.bool (a.o 5)) (.bool (a.o 6)) (.slice aRa a.nr cRa) (.slice aDa a.nd cDa) 26 (by simp)).box_9 (w.heap.size + 2) (.bool (b.o 0)) (.bool (b.o 1)) (.bool (b.o 2)) (.bool (b.o 3)) (.bool (b.o 4)) (.bool (b.o 5)) (.bool (b.o 6)) (.slice aRb b.nr cRb) (.slice aDb b.nd cDb) 26 (by simp))
  (with_reducible refine (cashown_any K _ (H.factsV (mt32 (mt32 (mt8 (mt1 (mt1 (mt1 (mt1 (mt1 (mt1 mh))))))))))).mono ?_)
  rintro e w1 ⟨rfl, hb⟩
  replace H := H.below hb
  clear hb
  have ca0 := H.cell (w.heap.size + 1) 0 (.bool (a.o 0)) (mt8 (mt8 (mt1 (mt1 mh))))
  have ca1 := H.cell (w.heap.size + 1) 1 (.bool (a.o 1)) (mt8 (mt8 (mt1 (mt1 (mt1 mh)))))
  have ca2 := H.cell (w.heap.size + 1) 2 (.bool (a.o 2)) (mt8 (mt8 (mt1 (mt1 (mt1 (mt1 mh))))))
  have ca3 := H.cell (w.heap.size + 1) 3 (.bool (a.o 3)) (mt8 (mt8 (mt1 (mt1 (mt1 (mt1 (mt1 mh)))))))
  have ca4 := H.cell (w.heap.size + 1) 4 (.bool (a.o 4)) (mt8 (mt8 (mt1 (mt1 (mt1 (mt1 (mt1 (mt1 mh))))))))
  have ca5 := H.cell (w.heap.size + 1) 5 (.bool (a.o 5)) (mt8 (mt8 (mt1 (mt1 (mt1 (mt1 (mt1 (mt1 (mt1 mh)))))))))
  have ca6 := H.cell (w.heap.size + 1) 6 (.bool (a.o 6)) (mt8 (mt8 (mt8 mh)))
  have ca7 := H.cell (w.heap.size + 1) 7 (.slice aRa a.nr cRa) (mt8 (mt8 (mt8 (mt1 mh))))
  have ca8 := H.cell (w.heap.size + 1) 8 (.slice aDa a.nd cDa) (mt8 (mt8 (mt8 (mt1 (mt1 mh)))))
  have la := H.lt (w.heap.size + 1) 0 (.bool (a.o 0)) (mt8 (mt8 (mt1 (mt1 mh))))
  go_wp2_with fail
  clear ca0 ca1 ca2 ca3 ca4 ca5 ca6 ca7 ca8 la
  (with_reducible refine (few_any a aRa cRa aDa cDa true _ HFA.out).mono ?_)
  rintro e w2 ⟨rfl, hb⟩
  replace H := H.below hb
  clear hb
  have cb0 := H.cell (w.heap.size + 2) 0 (.bool (b.o 0)) mh
  have cb1 := H.cell (w.heap.size + 2) 1 (.bool (b.o 1)) (mt1 mh)
  have cb2 := H.cell (w.heap.size + 2) 2 (.bool (b.o 2)) (mt1 (mt1 mh))
  have cb3 := H.cell (w.heap.size + 2) 3 (.bool (b.o 3)) (mt1 (mt1 (mt1 mh)))
  have cb4 := H.cell (w.heap.size + 2) 4 (.bool (b.o 4)) (mt1 (mt1 (mt1 (mt1 mh))))
  have cb5 := H.cell (w.heap.size + 2) 5 (.bool (b.o 5)) (mt1 (mt1 (mt1 (mt1 (mt1 mh)))))
  have cb6 := H.cell (w.heap.size + 2) 6 (.bool (b.o 6)) (mt1 (mt1 (mt1 (mt1 (mt1 (mt1 mh))))))
  have cb7 := H.cell (w.heap.size + 2) 7 (.slice aRb b.nr cRb) (mt1 (mt1 (mt1 (mt1 (mt1 (mt1 (mt1 mh)))))))
  have cb8 := H.cell (w.heap.size + 2) 8 (.slice aDb b.nd cDb) (mt8 mh)
  have lb := H.lt (w.heap.size + 2) 0 (.bool (b.o 0)) mh
  go_wp2_with fail
  clear cb0 cb1 cb2 cb3 cb4 cb5 cb6 cb7 cb8 lb
  (with_reducible refine (few_any b aRb cRb aDb cDb true _ HFB.out).mono ?_)
  rintro e w3 ⟨rfl, hb⟩
  replace H := H.below hb
  clear hb
  have ca0 := H.cell (w.heap.size + 1) 0 (.bool (a.o 0)) (mt8 (mt8 (mt1 (mt1 mh))))
  have ca1 := H.cell (w.heap.size + 1) 1 (.bool (a.o 1)) (mt8 (mt8 (mt1 (mt1 (mt1 mh)))))
  have ca2 := H.cell (w.heap.size + 1) 2 (.bool (a.o 2)) (mt8 (mt8 (mt1 (mt1 (mt1 (mt1 mh))))))
  have ca3 := H.cell (w.heap.size + 1) 3 (.bool (a.o 3)) (mt8 (mt8 (mt1 (mt1 (mt1 (mt1 (mt1 mh)))))))
  have ca4 := H.cell (w.heap.size + 1) 4 (.bool (a.o 4)) (mt8 (mt8 (mt1 (mt1 (mt1 (mt1 (mt1 (mt1 mh))))))))
  have ca5 := H.cell (w.heap.size + 1) 5 (.bool (a.o 5)) (mt8 (mt8 (mt1 (mt1 (mt1 (mt1 (mt1 (mt1 (mt1 mh)))))))))
  have ca6 := H.cell (w.heap.size + 1) 6 (.bool (a.o 6)) (mt8 (mt8 (mt8 mh)))
  have ca7 := H.cell (w.heap.size + 1) 7 (.slice aRa a.nr cRa) (mt8 (mt8 (mt8 (mt1 mh))))
  have ca8 := H.cell (w.heap.size + 1) 8 (.slice aDa a.nd cDa) (mt8 (mt8 (mt8 (mt1 (mt1 mh)))))
  have la := H.lt (w.heap.size + 1) 0 (.bool (a.o 0)) (mt8 (mt8 (mt1 (mt1 mh))))
  go_wp2_with fail
  clear ca0 ca1 ca2 ca3 ca4 ca5 ca6 ca7 ca8 la
  (with_reducible refine (rcmay_any a aRa cRa aDa cDa false _ HZA.out (H.cal (mt32 (mt32 (mt8 (mt1 (mt1 (mt1 (mt1 (mt1 mh))))))))) ⟨fun g => absurd g (by decide), fun g => absurd g MA.out⟩).mono ?_)
  rintro e w4 ⟨rfl, hb⟩
  replace H := H.below hb
  clear hb
  go_wp2_with fail
  go_ret
  exact ⟨rfl, H.old⟩

set_option maxHeartbeats 8000000 in
set_option maxRecDepth 100000 in
theorem caunites_4 (K : CalWay) (a : Ca) (aRa : Option Addr) (cRa : Nat) (aDa : Option Addr) (cDa : Nat) (b : Ca) (aRb : Option Addr) (cRb : Nat) (aDb : Option Addr) (cDb : Nat) (n m : Int) (w : World) (hL : FactsV w) (hCa : CalAt w a aRa cRa aDa cDa) (hCb : CalAt w b aRb cRb aDb cDb) (fa : decide (a.nr ≤ 12 ∧ a.nd ≤ 60) = true) (fb : decide (b.nr ≤ 12 ∧ b.nd ≤ 60) = true) (za : a.Small) (zb : b.Small) (ma : a.May) (mb : ¬ b.May) :
    Calls Tryd.prog 4 #[.agg #[.bool (a.o 0), .bool (a.o 1), .bool (a.o 2), .bool (a.o 3), .bool (a.o 4), .bool (a.o 5), .bool (a.o 6), .slice aRa a.nr cRa, .slice aDa a.nd cDa, .bool (b.o 0), .bool (b.o 1), .bool (b.o 2), .bool (b.o 3), .bool (b.o 4), .bool (b.o 5), .bool (b.o 6), .slice aRb b.nr cRb, .slice aDb b.nd cDb, .int .i64 n, .int .i64 m]] w fun e w' => e = .returned (.bool true) ∧ Below w.heap.size w w' := by
  have H := (((Held.start w).add (f := factsVF) hL).add (f := calF a aRa cRa aDa cDa) hCa).add (f := calF b aRb cRb aDb cDb) hCb
  clear hL hCa hCb
  have HFA := Lib.hid fa
  have HFB := Lib.hid fb
  have HZA := Lib.hid za
  have HZB := Lib.hid zb
  have MA := Lib.hid ma
  have MB := Lib.hid mb
  clear fa fb za zb ma mb
  go_enter Tryd.func4, Tryd.ntmps4
  go_wp2_with fail
  replace H := (((H.box_20 (w.heap.size) (.bool (a.o 0)) (.bool (a.o 1)) (.bool (a.o 2)) (.bool (a.o 3)) (.bool (a.o 4)) (.bool (a.o 5)) (.bool (a.o 6)) (.slice aRa a.nr cRa) (.slice aDa a.nd cDa) (.bool (b.o 0)) (.bool (b.o 1)) (.bool (b.o 2)) (.bool (b.o 3)) (.bool (b.o 4)) (.bool (b.o 5)) (.bool (b.o 6)) (.slice aRb b.nr cRb) (.slice aDb b.nd cDb) (.int .i64 n) (.int .i64 m) 31 rfl).box_9 (w.heap.size + 1) (.bool (a.o 0)) (.bool (a.o 1)) (.bool (a.o 2)) (.bool (a.o 3)) (.bool (a.o 4)) (.bool (a.o 5)) (.bool (a.o 6)) (.slice aRa a.nr cRa) (.slice aDa a.nd cDa) 26 (by simp)).box_9 (w.heap.size + 2) (.bool (b.o 0)) (.bool (b.o 1)) (.bool (b.o 2)) (.bool (b.o 3)) (.bool (b.o 4)) (.bool (b.o 5)) (.bool (b.o 6)) (.slice aRb b.nr cRb) (.slice aDb b.nd cDb) 26 (by simp))
  (with_reducible refine (cashown_any K _ (H.factsV (mt32 (mt32 (mt8 (mt1 (mt1 (mt1 (mt1 (mt1 (mt1 mh))))))))))).mono ?_)
  rintro e w1 ⟨rfl, hb⟩
  replace H := H.below hb
  clear hb
  have ca0 := H.cell (w.heap.size + 1) 0 (.bool (a.o 0)) (mt8 (mt8 (mt1 (mt1 mh))))
  have ca1 := H.cell (w.heap.size + 1) 1 (.bool (a.o 1)) (mt8 (mt8 (mt1 (mt1 (mt1 mh)))))
  have ca2 := H.cell (w.heap.size + 1) 2 (.bool (a.o 2)) (mt8 (mt8 (mt1 (mt1 (mt1 (mt1 mh))))))
  have ca3 := H.cell (w.heap.size + 1) 3 (.bool (a.o 3)) (mt8 (mt8 (mt1 (mt1 (mt1 (mt1 (mt1 mh)))))))
  have ca4 := H.cell (w.heap.size + 1) 4 (.bool (a.o 4)) (mt8 (mt8 (mt1 (mt1 (mt1 (mt1 (mt1 (mt1 mh))))))))
  have ca5 := H.cell (w.heap.size + 1) 5 (.bool (a.o 5)) (mt8 (mt8 (mt1 (mt1 (mt1 (mt1 (mt1 (mt1 (mt1 mh)))))))))
  have ca6 := H.cell (w.heap.size + 1) 6 (.bool (a.o 6)) (mt8 (mt8 (mt8 mh)))
  have ca7 := H.cell (w.heap.size + 1) 7 (.slice aRa a.nr cRa) (mt8 (mt8 (mt8 (mt1 mh))))
  have ca8 := H.cell (w.heap.size + 1) 8 (.slice aDa a.nd cDa) (mt8 (mt8 (mt8 (mt1 (mt1 mh)))))
  have la := H.lt (w.heap.size + 1) 0 (.bool (a.o 0)) (mt8 (mt8 (mt1 (mt1 mh))))
  go_wp2_with fail
  clear ca0 ca1 ca2 ca3 ca4 ca5 ca6 ca7 ca8 la
  (with_reducible refine (few_any a aRa cRa aDa cDa true _ HFA.out).mono ?_)
  rintro e w2 ⟨rfl, hb⟩
  replace H := H.below hb
  clear hb
  have cb0 := H.cell (w.heap.size + 2) 0 (.bool (b.o 0)) mh
  have cb1 := H.cell (w.heap.size + 2) 1 (.bool (b.o 1)) (mt1 mh)
  have cb2 := H.cell (w.heap.size + 2) 2 (.bool (b.o 2)) (mt1 (mt1 mh))
  have cb3 := H.cell (w.heap.size + 2) 3 (.bool (b.o 3)) (mt1 (mt1 (mt1 mh)))
  have cb4 := H.cell (w.heap.size + 2) 4 (.bool (b.o 4)) (mt1 (mt1 (mt1 (mt1 mh))))
  have cb5 := H.cell (w.heap.size + 2) 5 (.bool (b.o 5)) (mt1 (mt1 (mt1 (mt1 (mt1 mh)))))
  have cb6 := H.cell (w.heap.size + 2) 6 (.bool (b.o 6)) (mt1 (mt1 (mt1 (mt1 (mt1 (mt1 mh))))))
  have cb7 := H.cell (w.heap.size + 2) 7 (.slice aRb b.nr cRb) (mt1 (mt1 (mt1 (mt1 (mt1 (mt1 (mt1 mh)))))))
  have cb8 := H.cell (w.heap.size + 2) 8 (.slice aDb b.nd cDb) (mt8 mh)
  have lb := H.lt (w.heap.size + 2) 0 (.bool (b.o 0)) mh
  go_wp2_with fail
  clear cb0 cb1 cb2 cb3 cb4 cb5 cb6 cb7 cb8 lb
  (with_reducible refine (few_any b aRb cRb aDb cDb true _ HFB.out).mono ?_)
  rintro e w3 ⟨rfl, hb⟩
  replace H := H.below hb
  clear hb
  have ca0 := H.cell (w.heap.size + 1) 0 (.bool (a.o 0)) (mt8 (mt8 (mt1 (mt1 mh))))
  have ca1 := H.cell (w.heap.size + 1) 1 (.bool (a.o 1)) (mt8 (mt8 (mt1 (mt1 (mt1 mh)))))
  have ca2 := H.cell (w.heap.size + 1) 2 (.bool (a.o 2)) (mt8 (mt8 (mt1 (mt1 (mt1 (mt1 mh))))))
  have ca3 := H.cell (w.heap.size + 1) 3 (.bool (a.o 3)) (mt8 (mt8 (mt1 (mt1 (mt1 (mt1 (mt1 mh)))))))
  have ca4 := H.cell (w.heap.size + 1) 4 (.bool (a.o 4)) (mt8 (mt8 (mt1 (mt1 (mt1 (mt1 (mt1 (mt1 mh))))))))
  have ca5 := H.cell (w.heap.size + 1) 5 (.bool (a.o 5)) (mt8 (mt8 (mt1 (mt1 (mt1 (mt1 (mt1 (mt1 (mt1 mh)))))))))
  have ca6 := H.cell (w.heap.size + 1) 6 (.bool (a.o 6)) (mt8 (mt8 (mt8 mh)))
  have ca7 := H.cell (w.heap.size + 1) 7 (.slice aRa a.nr cRa) (mt8 (mt8 (mt8 (mt1 mh))))
  have ca8 := H.cell (w.heap.size + 1) 8 (.slice aDa a.nd cDa) (mt8 (mt8 (mt8 (mt1 (mt1 mh)))))
  have la := H.lt (w.heap.size + 1) 0 (.bool (a.o 0)) (mt8 (mt8 (mt1 (mt1 mh))))
  go_wp2_with fail
  clear ca0 ca1 ca2 ca3 ca4 ca5 ca6 ca7 ca8 la
  (with_reducible refine (rcmay_any a aRa cRa aDa cDa true _ HZA.out (H.cal (mt32 (mt32 (mt8 (mt1 (mt1 (mt1 (mt1 (mt1 mh))))))))) ⟨fun _ => MA.out, fun _ => rfl⟩).mono ?_)
  rintro e w4 ⟨rfl, hb⟩
  replace H := H.below hb
  clear hb
  have cb0 := H.cell (w.heap.size + 2) 0 (.bool (b.o 0)) mh
  have cb1 := H.cell (w.heap.size + 2) 1 (.bool (b.o 1)) (mt1 mh)
  have cb2 := H.cell (w.heap.size + 2) 2 (.bool (b.o 2)) (mt1 (mt1 mh))
  have cb3 := H.cell (w.heap.size + 2) 3 (.bool (b.o 3)) (mt1 (mt1 (mt1 mh)))
  have cb4 := H.cell (w.heap.size + 2) 4 (.bool (b.o 4)) (mt1 (mt1 (mt1 (mt1 mh))))
  have cb5 := H.cell (w.heap.size + 2) 5 (.bool (b.o 5)) (mt1 (mt1 (mt1 (mt1 (mt1 mh)))))
  have cb6 := H.cell (w.heap.size + 2) 6 (.bool (b.o 6)) (mt1 (mt1 (mt1 (mt1 (mt1 (mt1 mh))))))
  have cb7 := H.cell (w.heap.size + 2) 7 (.slice aRb b.nr cRb) (mt1 (mt1 (mt1 (mt1 (mt1 (mt1 (mt1 mh)))))))
  have cb8 := H.cell (w.heap.size + 2) 8 (.slice aDb b.nd cDb) (mt8 mh)
  have lb := H.lt (w.heap.size + 2) 0 (.bool (b.o 0)) mh
  go_wp2_with fail
  clear cb0 cb1 cb2 cb3 cb4 cb5 cb6 cb7 cb8 lb
  (with_reducible refine (rcmay_any b aRb cRb aDb cDb false _ HZB.out (H.cal (mt32 (mt32 (mt8 (mt1 (mt1 (mt1 (mt1 mh)))))))) ⟨fun g => absurd g (by decide), fun g => absurd g MB.out⟩).mono ?_)
  rintro e w5 ⟨rfl, hb⟩
  replace H := H.below hb
  clear hb
  go_wp2_with fail
  go_ret
  exact ⟨rfl, H.old⟩

set_option maxHeartbeats 8000000 in
set_option maxRecDepth 100000 in
theorem caunites_5 (K : CalWay) (a : Ca) (aRa : Option Addr) (cRa : Nat) (aDa : Option Addr) (cDa : Nat) (b : Ca) (aRb : Option Addr) (cRb : Nat) (aDb : Option Addr) (cDb : Nat) (n m : Int) (d : Int) (w : World) (hL : FactsV w) (hCa : CalAt w a aRa cRa aDa cDa) (hCb : CalAt w b aRb cRb aDb cDb) (fa : decide (a.nr ≤ 12 ∧ a.nd ≤ 60) = true) (fb : decide (b.nr ≤ 12 ∧ b.nd ≤ 60) = true) (za : a.Small) (zb : b.Small) (ma : a.May) (mb : b.May) (t1 : decide (m > n) = true) (hd : IntKind.i64.wrap (m - n) = d) (t2 : decide (d > 100) = true) (t3 : decide (d ≤ 4000) = true) :
    Calls Tryd.prog 4 #[.agg #[.bool (a.o 0), .bool (a.o 1), .bool (a.o 2), .bool (a.o 3), .bool (a.o 4), .bool (a.o 5), .bool (a.o 6), .slice aRa a.nr cRa, .slice aDa a.nd cDa, .bool (b.o 0), .bool (b.o 1), .bool (b.o 2), .bool (b.o 3), .bool (b.o 4), .bool (b.o 5), .bool (b.o 6), .slice aRb b.nr cRb, .slice aDb b.nd cDb, .int .i64 n, .int .i64 m]] w fun e w' => e = .returned (.bool true) ∧ Below w.heap.size w w' := by
  have H := (((Held.start w).add (f := factsVF) hL).add (f := calF a aRa cRa aDa cDa) hCa).add (f := calF b aRb cRb aDb cDb) hCb
  clear hL hCa hCb
  have HFA := Lib.hid fa
  have HFB := Lib.hid fb
  have HZA := Lib.hid za
  have HZB := Lib.hid zb
  have MA := Lib.hid ma
  have MB := Lib.hid mb
  clear fa fb za zb ma mb
  go_enter Tryd.func4, Tryd.ntmps4
  go_wp2_with fail
  replace H := (((H.box_20 (w.heap.size) (.bool (a.o 0)) (.bool (a.o 1)) (.bool (a.o 2)) (.bool (a.o 3)) (.bool (a.o 4)) (.bool (a.o 5)) (.bool (a.o 6)) (.slice aRa a.nr cRa) (.slice aDa a.nd cDa) (.bool (b.o 0)) (.bool (b.o 1)) (.bool (b.o 2)) (.bool (b.o 3)) (.bool (b.o 4)) (.bool (b.o 5)) (.bool (b.o 6)) (.slice aRb b.nr cRb) (.slice aDb b.nd cDb) (.int .i64 n) (.int .i64 m) 31 rfl).box_9 (w.heap.size + 1) (.bool (a.o 0)) (.bool (a.o 1)) (.bool (a.o 2)) (.bool (a.o 3)) (.bool (a.o 4)) (.bool (a.o 5)) (.bool (a.o 6)) (.slice aRa a.nr cRa) (.slice aDa a.nd cDa) 26 (by simp)).box_9 (w.heap.size + 2) (.bool (b.o 0)) (.bool (b.o 1)) (.bool (b.o 2)) (.bool (b.o 3)) (.bool (b.o 4)) (.bool (b.o 5)) (.bool (b.o 6)) (.slice aRb b.nr cRb) (.slice aDb b.nd cDb) 26 (by simp))
  (with_reducible refine (cashown_any K _ (H.factsV (mt32 (mt32 (mt8 (mt1 (mt1 (mt1 (mt1 (mt1 (mt1 mh))))))))))).mono ?_)
  rintro e w1 ⟨rfl, hb⟩
  replace H := H.below hb
  clear hb
  have ca0 := H.cell (w.heap.size + 1) 0 (.bool (a.o 0)) (mt8 (mt8 (mt1 (mt1 mh))))
  have ca1 := H.cell (w.heap.size + 1) 1 (.bool (a.o 1)) (mt8 (mt8 (mt1 (mt1 (mt1 mh)))))
  have ca2 := H.cell (w.heap.size + 1) 2 (.bool (a.o 2)) (mt8 (mt8 (mt1 (mt1 (mt1 (mt1 mh))))))
  have ca3 := H.cell (w.heap.size + 1) 3 (.bool (a.o 3)) (mt8 (mt8 (mt1 (mt1 (mt1 (mt1 (mt1 mh)))))))
  have ca4 := H.cell (w.heap.size + 1) 4 (.bool (a.o 4)) (mt8 (mt8 (mt1 (mt1 (mt1 (mt1 (mt1 (mt1 mh))))))))
  have ca5 := H.cell (w.heap.size + 1) 5 (.bool (a.o 5)) (mt8 (mt8 (mt1 (mt1 (mt1 (mt1 (mt1 (mt1 (mt1 mh)))))))))
  have ca6 := H.cell (w.heap.size + 1) 6 (.bool (a.o 6)) (mt8 (mt8 (mt8 mh)))
  have ca7 := H.cell (w.heap.size + 1) 7 (.slice aRa a.nr cRa) (mt8 (mt8 (mt8 (mt1 mh))))
  have ca8 := H.cell (w.heap.size + 1) 8 (.slice aDa a.nd cDa) (mt8 (mt8 (mt8 (mt1 (mt1 mh)))))
  have la := H.lt (w.heap.size + 1) 0 (.bool (a.o 0)) (mt8 (mt8 (mt1 (mt1 mh))))
  go_wp2_with fail
  clear ca0 ca1 ca2 ca3 ca4 ca5 ca6 ca7 ca8 la
  (with_reducible refine (few_any a aRa cRa aDa cDa true _ HFA.out).mono ?_)
  rintro e w2 ⟨rfl, hb⟩
  replace H := H.below hb
  clear hb
  have cb0 := H.cell (w.heap.size + 2) 0 (.bool (b.o 0)) mh
  have cb1 := H.cell (w.heap.size + 2) 1 (.bool (b.o 1)) (mt1 mh)
  have cb2 := H.cell (w.heap.size + 2) 2 (.bool (b.o 2)) (mt1 (mt1 mh))
  have cb3 := H.cell (w.heap.size + 2) 3 (.bool (b.o 3)) (mt1 (mt1 (mt1 mh)))
  have cb4 := H.cell (w.heap.size + 2) 4 (.bool (b.o 4)) (mt1 (mt1 (mt1 (mt1 mh))))
  have cb5 := H.cell (w.heap.size + 2) 5 (.bool (b.o 5)) (mt1 (mt1 (mt1 (mt1 (mt1 mh)))))
  have cb6 := H.cell (w.heap.size + 2) 6 (.bool (b.o 6)) (mt1 (mt1 (mt1 (mt1 (mt1 (mt1 mh))))))
  have cb7 := H.cell (w.heap.size + 2) 7 (.slice aRb b.nr cRb) (mt1 (mt1 (mt1 (mt1 (mt1 (mt1 (mt1 mh)))))))
  have cb8 := H.cell (w.heap.size + 2) 8 (.slice aDb b.nd cDb) (mt8 mh)
  have lb := H.lt (w.heap.size + 2) 0 (.bool (b.o 0)) mh
  go_wp2_with fail
  clear cb0 cb1 cb2 cb3 cb4 cb5 cb6 cb7 cb8 lb
  (with_reducible refine (few_any b aRb cRb aDb cDb true _ HFB.out).mono ?_)
  rintro e w3 ⟨rfl, hb⟩
  replace H := H.below hb
  clear hb
  have ca0 := H.cell (w.heap.size + 1) 0 (.bool (a.o 0)) (mt8 (mt8 (mt1 (mt1 mh))))
  have ca1 := H.cell (w.heap.size + 1) 1 (.bool (a.o 1)) (mt8 (mt8 (mt1 (mt1 (mt1 mh)))))
  have ca2 := H.cell (w.heap.size + 1) 2 (.bool (a.o 2)) (mt8 (mt8 (mt1 (mt1 (mt1 (mt1 mh))))))
  have ca3 := H.cell (w.heap.size + 1) 3 (.bool (a.o 3)) (mt8 (mt8 (mt1 (mt1 (mt1 (mt1 (mt1 mh)))))))
  have ca4 := H.cell (w.heap.size + 1) 4 (.bool (a.o 4)) (mt8 (mt8 (mt1 (mt1 (mt1 (mt1 (mt1 (mt1 mh))))))))
  have ca5 := H.cell (w.heap.size + 1) 5 (.bool (a.o 5)) (mt8 (mt8 (mt1 (mt1 (mt1 (mt1 (mt1 (mt1 (mt1 mh)))))))))
  have ca6 := H.cell (w.heap.size + 1) 6 (.bool (a.o 6)) (mt8 (mt8 (mt8 mh)))
  have ca7 := H.cell (w.heap.size + 1) 7 (.slice aRa a.nr cRa) (mt8 (mt8 (mt8 (mt1 mh))))
  have ca8 := H.cell (w.heap.size + 1) 8 (.slice aDa a.nd cDa) (mt8 (mt8 (mt8 (mt1 (mt1 mh)))))
  have la := H.lt (w.heap.size + 1) 0 (.bool (a.o 0)) (mt8 (mt8 (mt1 (mt1 mh))))
  go_wp2_with fail
  clear ca0 ca1 ca2 ca3 ca4 ca5 ca6 ca7 ca8 la
  (with_reducible refine (rcmay_any a aRa cRa aDa cDa true _ HZA.out (H.cal (mt32 (mt32 (mt8 (mt1 (mt1 (mt1 (mt1 (mt1 mh))))))))) ⟨fun _ => MA.out, fun _ => rfl⟩).mono ?_)
  rintro e w4 ⟨rfl, hb⟩
  replace H := H.below hb
  clear hb
  have cb0 := H.cell (w.heap.size + 2) 0 (.bool (b.o 0)) mh
  have cb1 := H.cell (w.heap.size + 2) 1 (.bool (b.o 1)) (mt1 mh)
  have cb2 := H.cell (w.heap.size + 2) 2 (.bool (b.o 2)) (mt1 (mt1 mh))
  have cb3 := H.cell (w.heap.size + 2) 3 (.bool (b.o 3)) (mt1 (mt1 (mt1 mh)))
  have cb4 := H.cell (w.heap.size + 2) 4 (.bool (b.o 4)) (mt1 (mt1 (mt1 (mt1 mh))))
  have cb5 := H.cell (w.heap.size + 2) 5 (.bool (b.o 5)) (mt1 (mt1 (mt1 (mt1 (mt1 mh)))))
  have cb6 := H.cell (w.heap.size + 2) 6 (.bool (b.o 6)) (mt1 (mt1 (mt1 (mt1 (mt1 (mt1 mh))))))
  have cb7 := H.cell (w.heap.size + 2) 7 (.slice aRb b.nr cRb) (mt1 (mt1 (mt1 (mt1 (mt1 (mt1 (mt1 mh)))))))
  have cb8 := H.cell (w.heap.size + 2) 8 (.slice aDb b.nd cDb) (mt8 mh)
  have lb := H.lt (w.heap.size + 2) 0 (.bool (b.o 0)) mh
  go_wp2_with fail
  clear cb0 cb1 cb2 cb3 cb4 cb5 cb6 cb7 cb8 lb
  (with_reducible refine (rcmay_any b aRb cRb aDb cDb true _ HZB.out (H.cal (mt32 (mt32 (mt8 (mt1 (mt1 (mt1 (mt1 mh)))))))) ⟨fun _ => MB.out, fun _ => rfl⟩).mono ?_)
  rintro e w5 ⟨rfl, hb⟩
  replace H := H.below hb
  clear hb
  go_wp2_with fail
  go_ret
  exact ⟨rfl, H.old⟩
end Go.Proofs.YtkadodkdbopgnaaDoor
