/- CalBoth: the walk. -/
import Derived.Test.YtkadodkdbopgnaaDoorCaShown
import Derived.Test.YtkadodkdbopgnaaDoorCaBox
namespace Go.Proofs.YtkadodkdbopgnaaDoor
open Go.RowKit
set_option linter.unusedVariables false
set_option linter.unusedSimpArgs false

theorem un_self (a : Ca) (i : Nat) : (a.un a).o i = a.o i := Bool.or_self _
theorem un_small {a b : Ca} (ha : a.Few) (hb : b.Few) : (a.un b).Small := by
  have l := (len_mg (dl a.X a.nd) (dl b.X b.nd)).1
  rw [dl_len, dl_len] at l
  exact ⟨show a.nr + b.nr ≤ 200 by have := ha.1; have := hb.1; omega, show (mg (dl a.X a.nd) (dl b.X b.nd)).length ≤ 2000 by have := ha.2; have := hb.2; omega⟩
theorem quy (K : CalWay) (a : Ca) (aRa : Option Addr) (cRa : Nat) (aDa : Option Addr) (cDa : Nat) (b : Ca) (aRb : Option Addr) (cRb : Nat) (aDb : Option Addr) (cDb : Nat) (v : World) (h : FactsV v) (ha : a.Few) (hb : b.Few) (ma : a.May) (mb : b.May) (hA : CalAt v a aRa cRa aDa cDa) (hB : CalAt v b aRb cRb aDb cDb) (hu : (a.un b).May) :
    Calls Tryd.prog 17 #[.agg #[.bool (a.o 0), .bool (a.o 1), .bool (a.o 2), .bool (a.o 3), .bool (a.o 4), .bool (a.o 5), .bool (a.o 6), .slice aRa a.nr cRa, .slice aDa a.nd cDa], .agg #[.bool (b.o 0), .bool (b.o 1), .bool (b.o 2), .bool (b.o 3), .bool (b.o 4), .bool (b.o 5), .bool (b.o 6), .slice aRb b.nr cRb, .slice aDb b.nd cDb]] v fun e w' => ∃ aR cR aD cD, e = .returned (.tuple #[.agg #[.bool (a.o 0 || b.o 0), .bool (a.o 1 || b.o 1), .bool (a.o 2 || b.o 2), .bool (a.o 3 || b.o 3), .bool (a.o 4 || b.o 4), .bool (a.o 5 || b.o 5), .bool (a.o 6 || b.o 6), .slice aR (a.un b).nr cR, .slice aD (a.un b).nd cD], .int .i64 0]) ∧ CalAt w' (a.un b) aR cR aD cD ∧ Below v.heap.size v w' :=
  (K.union a aRa cRa aDa cDa b aRb cRb aDb cDb v h ha hb ma mb hA hB).mono (fun e w' he => by
    rcases he with ⟨_, aR, cR, aD, cD, g1, g2, g3⟩ | ⟨g, _⟩
    · exact ⟨aR, cR, aD, cD, g1, g2, g3⟩
    · exact absurd hu g)
theorem qun (K : CalWay) (a : Ca) (aRa : Option Addr) (cRa : Nat) (aDa : Option Addr) (cDa : Nat) (b : Ca) (aRb : Option Addr) (cRb : Nat) (aDb : Option Addr) (cDb : Nat) (v : World) (h : FactsV v) (ha : a.Few) (hb : b.Few) (ma : a.May) (mb : b.May) (hA : CalAt v a aRa cRa aDa cDa) (hB : CalAt v b aRb cRb aDb cDb) (hu : ¬ (a.un b).May) :
    Calls Tryd.prog 17 #[.agg #[.bool (a.o 0), .bool (a.o 1), .bool (a.o 2), .bool (a.o 3), .bool (a.o 4), .bool (a.o 5), .bool (a.o 6), .slice aRa a.nr cRa, .slice aDa a.nd cDa], .agg #[.bool (b.o 0), .bool (b.o 1), .bool (b.o 2), .bool (b.o 3), .bool (b.o 4), .bool (b.o 5), .bool (b.o 6), .slice aRb b.nr cRb, .slice aDb b.nd cDb]] v fun e w' => e = .returned (.tuple #[.agg #[.bool false, .bool false, .bool false, .bool false, .bool false, .bool false, .bool false, .slice none 0 0, .slice none 0 0], .int .i64 1]) ∧ Below v.heap.size v w' :=
  (K.union a aRa cRa aDa cDa b aRb cRb aDb cDb v h ha hb ma mb hA hB).mono (fun e w' he => by
    rcases he with ⟨g, _⟩ | ⟨_, g⟩
    · exact absurd g hu
    · exact g)
theorem quz (K : CalWay) (a : Ca) (aRa : Option Addr) (cRa : Nat) (aDa : Option Addr) (cDa : Nat) (v : World) (h : FactsV v) (ha : a.Few) (ma : a.May) (hA : CalAt v a aRa cRa aDa cDa) (hu : (a.un a).May) :
    Calls Tryd.prog 17 #[.agg #[.bool (a.o 0), .bool (a.o 1), .bool (a.o 2), .bool (a.o 3), .bool (a.o 4), .bool (a.o 5), .bool (a.o 6), .slice aRa a.nr cRa, .slice aDa a.nd cDa], .agg #[.bool (a.o 0), .bool (a.o 1), .bool (a.o 2), .bool (a.o 3), .bool (a.o 4), .bool (a.o 5), .bool (a.o 6), .slice aRa a.nr cRa, .slice aDa a.nd cDa]] v fun e w' => ∃ aR cR aD cD, e = .returned (.tuple #[.agg #[.bool (a.o 0), .bool (a.o 1), .bool (a.o 2), .bool (a.o 3), .bool (a.o 4), .bool (a.o 5), .bool (a.o 6), .slice aR (a.un a).nr cR, .slice aD (a.un a).nd cD], .int .i64 0]) ∧ CalAt w' (a.un a) aR cR aD cD ∧ Below v.heap.size v w' :=
  (quy K a aRa cRa aDa cDa a aRa cRa aDa cDa v h ha ha ma ma hA hA hu).mono (fun e w' he => by
    obtain ⟨aR, cR, aD, cD, g1, g2, g3⟩ := he
    simp only [Bool.or_self] at g1
    exact ⟨aR, cR, aD, cD, g1, g2, g3⟩)
theorem qiz (K : CalWay) (a : Ca) (aR : Option Addr) (cR : Nat) (aD : Option Addr) (cD : Nat) (n : Int) (p : Bool) (v : World) (h : FactsV v) (mu : (a.un a).May) (hA : CalAt v (a.un a) aR cR aD cD) (hp : p = true ↔ a.Is n) :
    Calls Tryd.prog 15 #[.agg #[.bool (a.o 0), .bool (a.o 1), .bool (a.o 2), .bool (a.o 3), .bool (a.o 4), .bool (a.o 5), .bool (a.o 6), .slice aR (a.un a).nr cR, .slice aD (a.un a).nd cD], .int .i64 n] v fun e w' => e = .returned (.bool p) ∧ Below v.heap.size v w' := by
  have g := K.is (a.un a) aR cR aD cD n p v h mu hA (hp.trans ((un_is a a n).trans ⟨fun k => k.1, fun k => ⟨k, k⟩⟩).symm)
  rw [un_self, un_self, un_self, un_self, un_self, un_self, un_self] at g
  exact g
theorem qiu (K : CalWay) (a b : Ca) (aR : Option Addr) (cR : Nat) (aD : Option Addr) (cD : Nat) (n : Int) (r : Bool) (v : World) (h : FactsV v) (mu : (a.un b).May) (hA : CalAt v (a.un b) aR cR aD cD) (hr : r = true ↔ (a.Is n ∧ b.Is n)) :
    Calls Tryd.prog 15 #[.agg #[.bool (a.o 0 || b.o 0), .bool (a.o 1 || b.o 1), .bool (a.o 2 || b.o 2), .bool (a.o 3 || b.o 3), .bool (a.o 4 || b.o 4), .bool (a.o 5 || b.o 5), .bool (a.o 6 || b.o 6), .slice aR (a.un b).nr cR, .slice aD (a.un b).nd cD], .int .i64 n] v fun e w' => e = .returned (.bool r) ∧ Below v.heap.size v w' :=
  K.is (a.un b) aR cR aD cD n r v h mu hA (hr.trans (un_is a b n).symm)
theorem qmu (K : CalWay) (a b : Ca) (aR : Option Addr) (cR : Nat) (aD : Option Addr) (cD : Nat) (v : World) (h : FactsV v) (su : (a.un b).Small) (mu : (a.un b).May) (hA : CalAt v (a.un b) aR cR aD cD) :
    Calls Tryd.prog 14 #[.agg #[.bool (a.o 0 || b.o 0), .bool (a.o 1 || b.o 1), .bool (a.o 2 || b.o 2), .bool (a.o 3 || b.o 3), .bool (a.o 4 || b.o 4), .bool (a.o 5 || b.o 5), .bool (a.o 6 || b.o 6), .slice aR (a.un b).nr cR, .slice aD (a.un b).nd cD]] v fun e w' => e = .returned (.bool true) ∧ Below v.heap.size v w' :=
  K.may (a.un b) aR cR aD cD true v h su hA ⟨fun _ => mu, fun _ => rfl⟩

set_option maxHeartbeats 8000000 in
set_option maxRecDepth 100000 in
theorem caboth_1 (K : CalWay) (a : Ca) (aRa : Option Addr) (cRa : Nat) (aDa : Option Addr) (cDa : Nat) (b : Ca) (aRb : Option Addr) (cRb : Nat) (aDb : Option Addr) (cDb : Nat) (n : Int) (w : World) (hL : FactsV w) (hCa : CalAt w a aRa cRa aDa cDa) (hCb : CalAt w b aRb cRb aDb cDb) (fa : decide (a.nr ≤ 12 ∧ a.nd ≤ 60) = false) :
    Calls Tryd.prog 5 #[.agg #[.bool (a.o 0), .bool (a.o 1), .bool (a.o 2), .bool (a.o 3), .bool (a.o 4), .bool (a.o 5), .bool (a.o 6), .slice aRa a.nr cRa, .slice aDa a.nd cDa], .agg #[.bool (b.o 0), .bool (b.o 1), .bool (b.o 2), .bool (b.o 3), .bool (b.o 4), .bool (b.o 5), .bool (b.o 6), .slice aRb b.nr cRb, .slice aDb b.nd cDb], .int .i64 n] w fun e w' => e = .returned (.bool true) ∧ Below w.heap.size w w' := by
  have H := (((Held.start w).add (f := factsVF) hL).add (f := calF a aRa cRa aDa cDa) hCa).add (f := calF b aRb cRb aDb cDb) hCb
  clear hL hCa hCb
  have HFA := Lib.hid fa
  clear fa
  go_enter Tryd.func5, Tryd.ntmps5
  go_wp2_with fail
  replace H := ((H.box_9 (w.heap.size) (.bool (a.o 0)) (.bool (a.o 1)) (.bool (a.o 2)) (.bool (a.o 3)) (.bool (a.o 4)) (.bool (a.o 5)) (.bool (a.o 6)) (.slice aRa a.nr cRa) (.slice aDa a.nd cDa) 26 rfl).box_9 (w.heap.size + 1) (.bool (b.o 0)) (.bool (b.o 1)) (.bool (b.o 2)) (.bool (b.o 3)) (.bool (b.o 4)) (.bool (b.o 5)) (.bool (b.o 6)) (.slice aRb b.nr cRb) (.slice aDb b.nd cDb) 26 (by simp))
  (with_reducible refine (cashown_any K _ (H.factsV (mt32 (mt1 (mt1 (mt1 (mt1 (mt1 (mt1 mh))))))))).mono ?_)
  rintro e w1 ⟨rfl, hb⟩
  replace H := H.below hb
  clear hb
  have ca0 := H.cell (w.heap.size) 0 (.bool (a.o 0)) (mt8 (mt8 (mt1 (mt1 mh))))
  have ca1 := H.cell (w.heap.size) 1 (.bool (a.o 1)) (mt8 (mt8 (mt1 (mt1 (mt1 mh)))))
  have ca2 := H.cell (w.heap.size) 2 (.bool (a.o 2)) (mt8 (mt8 (mt1 (mt1 (mt1 (mt1 mh))))))
  have ca3 := H.cell (w.heap.size) 3 (.bool (a.o 3)) (mt8 (mt8 (mt1 (mt1 (mt1 (mt1 (mt1 mh)))))))
  have ca4 := H.cell (w.heap.size) 4 (.bool (a.o 4)) (mt8 (mt8 (mt1 (mt1 (mt1 (mt1 (mt1 (mt1 mh))))))))
  have ca5 := H.cell (w.heap.size) 5 (.bool (a.o 5)) (mt8 (mt8 (mt1 (mt1 (mt1 (mt1 (mt1 (mt1 (mt1 mh)))))))))
  have ca6 := H.cell (w.heap.size) 6 (.bool (a.o 6)) (mt8 (mt8 (mt8 mh)))
  have ca7 := H.cell (w.heap.size) 7 (.slice aRa a.nr cRa) (mt8 (mt8 (mt8 (mt1 mh))))
  have ca8 := H.cell (w.heap.size) 8 (.slice aDa a.nd cDa) (mt8 (mt8 (mt8 (mt1 (mt1 mh)))))
  have la := H.lt (w.heap.size) 0 (.bool (a.o 0)) (mt8 (mt8 (mt1 (mt1 mh))))
  go_wp2_with fail
  clear ca0 ca1 ca2 ca3 ca4 ca5 ca6 ca7 ca8 la
  (with_reducible refine (few_any a aRa cRa aDa cDa false _ HFA.out).mono ?_)
  rintro e w2 ⟨rfl, hb⟩
  replace H := H.below hb
  clear hb
  go_wp2_with fail
  go_ret
  exact ⟨rfl, H.old⟩

set_option maxHeartbeats 8000000 in
set_option maxRecDepth 100000 in
theorem caboth_2 (K : CalWay) (a : Ca) (aRa : Option Addr) (cRa : Nat) (aDa : Option Addr) (cDa : Nat) (b : Ca) (aRb : Option Addr) (cRb : Nat) (aDb : Option Addr) (cDb : Nat) (n : Int) (w : World) (hL : FactsV w) (hCa : CalAt w a aRa cRa aDa cDa) (hCb : CalAt w b aRb cRb aDb cDb) (fa : decide (a.nr ≤ 12 ∧ a.nd ≤ 60) = true) (fb : decide (b.nr ≤ 12 ∧ b.nd ≤ 60) = false) :
    Calls Tryd.prog 5 #[.agg #[.bool (a.o 0), .bool (a.o 1), .bool (a.o 2), .bool (a.o 3), .bool (a.o 4), .bool (a.o 5), .bool (a.o 6), .slice aRa a.nr cRa, .slice aDa a.nd cDa], .agg #[.bool (b.o 0), .bool (b.o 1), .bool (b.o 2), .bool (b.o 3), .bool (b.o 4), .bool (b.o 5), .bool (b.o 6), .slice aRb b.nr cRb, .slice aDb b.nd cDb], .int .i64 n] w fun e w' => e = .returned (.bool true) ∧ Below w.heap.size w w' := by
  have H := (((Held.start w).add (f := factsVF) hL).add (f := calF a aRa cRa aDa cDa) hCa).add (f := calF b aRb cRb aDb cDb) hCb
  clear hL hCa hCb
  have HFA := Lib.hid fa
  have HFB := Lib.hid fb
  clear fa fb
  go_enter Tryd.func5, Tryd.ntmps5
  go_wp2_with fail
  replace H := ((H.box_9 (w.heap.size) (.bool (a.o 0)) (.bool (a.o 1)) (.bool (a.o 2)) (.bool (a.o 3)) (.bool (a.o 4)) (.bool (a.o 5)) (.bool (a.o 6)) (.slice aRa a.nr cRa) (.slice aDa a.nd cDa) 26 rfl).box_9 (w.heap.size + 1) (.bool (b.o 0)) (.bool (b.o 1)) (.bool (b.o 2)) (.bool (b.o 3)) (.bool (b.o 4)) (.bool (b.o 5)) (.bool (b.o 6)) (.slice aRb b.nr cRb) (.slice aDb b.nd cDb) 26 (by simp))
  (with_reducible refine (cashown_any K _ (H.factsV (mt32 (mt1 (mt1 (mt1 (mt1 (mt1 (mt1 mh))))))))).mono ?_)
  rintro e w1 ⟨rfl, hb⟩
  replace H := H.below hb
  clear hb
  have ca0 := H.cell (w.heap.size) 0 (.bool (a.o 0)) (mt8 (mt8 (mt1 (mt1 mh))))
  have ca1 := H.cell (w.heap.size) 1 (.bool (a.o 1)) (mt8 (mt8 (mt1 (mt1 (mt1 mh)))))
  have ca2 := H.cell (w.heap.size) 2 (.bool (a.o 2)) (mt8 (mt8 (mt1 (mt1 (mt1 (mt1 mh))))))
  have ca3 := H.cell (w.heap.size) 3 (.bool (a.o 3)) (mt8 (mt8 (mt1 (mt1 (mt1 (mt1 (mt1 mh)))))))
  have ca4 := H.cell (w.heap.size) 4 (.bool (a.o 4)) (mt8 (mt8 (mt1 (mt1 (mt1 (mt1 (mt1 (mt1 mh))))))))
  have ca5 := H.cell (w.heap.size) 5 (.bool (a.o 5)) (mt8 (mt8 (mt1 (mt1 (mt1 (mt1 (mt1 (mt1 (mt1 mh)))))))))
  have ca6 := H.cell (w.heap.size) 6 (.bool (a.o 6)) (mt8 (mt8 (mt8 mh)))
  have ca7 := H.cell (w.heap.size) 7 (.slice aRa a.nr cRa) (mt8 (mt8 (mt8 (mt1 mh))))
  have ca8 := H.cell (w.heap.size) 8 (.slice aDa a.nd cDa) (mt8 (mt8 (mt8 (mt1 (mt1 mh)))))
  have la := H.lt (w.heap.size) 0 (.bool (a.o 0)) (mt8 (mt8 (mt1 (mt1 mh))))
  go_wp2_with fail
  clear ca0 ca1 ca2 ca3 ca4 ca5 ca6 ca7 ca8 la
  (with_reducible refine (few_any a aRa cRa aDa cDa true _ HFA.out).mono ?_)
  rintro e w2 ⟨rfl, hb⟩
  replace H := H.below hb
  clear hb
  have cb0 := H.cell (w.heap.size + 1) 0 (.bool (b.o 0)) mh
  have cb1 := H.cell (w.heap.size + 1) 1 (.bool (b.o 1)) (mt1 mh)
  have cb2 := H.cell (w.heap.size + 1) 2 (.bool (b.o 2)) (mt1 (mt1 mh))
  have cb3 := H.cell (w.heap.size + 1) 3 (.bool (b.o 3)) (mt1 (mt1 (mt1 mh)))
  have cb4 := H.cell (w.heap.size + 1) 4 (.bool (b.o 4)) (mt1 (mt1 (mt1 (mt1 mh))))
  have cb5 := H.cell (w.heap.size + 1) 5 (.bool (b.o 5)) (mt1 (mt1 (mt1 (mt1 (mt1 mh)))))
  have cb6 := H.cell (w.heap.size + 1) 6 (.bool (b.o 6)) (mt1 (mt1 (mt1 (mt1 (mt1 (mt1 mh))))))
  have cb7 := H.cell (w.heap.size + 1) 7 (.slice aRb b.nr cRb) (mt1 (mt1 (mt1 (mt1 (mt1 (mt1 (mt1 mh)))))))
  have cb8 := H.cell (w.heap.size + 1) 8 (.slice aDb b.nd cDb) (mt8 mh)
  have lb := H.lt (w.heap.size + 1) 0 (.bool (b.o 0)) mh
  go_wp2_with fail
  clear cb0 cb1 cb2 cb3 cb4 cb5 cb6 cb7 cb8 lb
  (with_reducible refine (few_any b aRb cRb aDb cDb false _ HFB.out).mono ?_)
  rintro e w3 ⟨rfl, hb⟩
  replace H := H.below hb
  clear hb
  go_wp2_with fail
  go_ret
  exact ⟨rfl, H.old⟩

set_option maxHeartbeats 8000000 in
set_option maxRecDepth 100000 in
theorem caboth_3 (K : CalWay) (a : Ca) (aRa : Option Addr) (cRa : Nat) (aDa : Option Addr) (cDa : Nat) (b : Ca) (aRb : Option Addr) (cRb : Nat) (aDb : Option Addr) (cDb : Nat) (n : Int) (w : World) (hL : FactsV w) (hCa : CalAt w a aRa cRa aDa cDa) (hCb : CalAt w b aRb cRb aDb cDb) (fa : decide (a.nr ≤ 12 ∧ a.nd ≤ 60) = true) (fb : decide (b.nr ≤ 12 ∧ b.nd ≤ 60) = true) (za : a.Small) (zb : b.Small) (ma : ¬ a.May) :
    Calls Tryd.prog 5 #[.agg #[.bool (a.o 0), .bool (a.o 1), .bool (a.o 2), .bool (a.o 3), .bool (a.o 4), .bool (a.o 5), .bool (a.o 6), .slice aRa a.nr cRa, .slice aDa a.nd cDa], .agg #[.bool (b.o 0), .bool (b.o 1), .bool (b.o 2), .bool (b.o 3), .bool (b.o 4), .bool (b.o 5), .bool (b.o 6), .slice aRb b.nr cRb, .slice aDb b.nd cDb], .int .i64 n] w fun e w' => e = .returned (.bool true) ∧ Below w.heap.size w w' := by
  have H := (((Held.start w).add (f := factsVF) hL).add (f := calF a aRa cRa aDa cDa) hCa).add (f := calF b aRb cRb aDb cDb) hCb
  clear hL hCa hCb
  have HFA := Lib.hid fa
  have HFB := Lib.hid fb
  have HZA := Lib.hid za
  have HZB := Lib.hid zb
  have MA := Lib.hid ma
  clear fa fb za zb ma
  go_enter Tryd.func5, Tryd.ntmps5
  go_wp2_with fail
  replace H := ((H.box_9 (w.heap.size) (.bool (a.o 0)) (.bool (a.o 1)) (.bool (a.o 2)) (.bool (a.o 3)) (.bool (a.o 4)) (.bool (a.o 5)) (.bool (a.o 6)) (.slice aRa a.nr cRa) (.slice aDa a.nd cDa) 26 rfl).box_9 (w.heap.size + 1) (.bool (b.o 0)) (.bool (b.o 1)) (.bool (b.o 2)) (.bool (b.o 3)) (.bool (b.o 4)) (.bool (b.o 5)) (.bool (b.o 6)) (.slice aRb b.nr cRb) (.slice aDb b.nd cDb) 26 (by simp))
  (with_reducible refine (cashown_any K _ (H.factsV (mt32 (mt1 (mt1 (mt1 (mt1 (mt1 (mt1 mh))))))))).mono ?_)
  rintro e w1 ⟨rfl, hb⟩
  replace H := H.below hb
  clear hb
  have ca0 := H.cell (w.heap.size) 0 (.bool (a.o 0)) (mt8 (mt8 (mt1 (mt1 mh))))
  have ca1 := H.cell (w.heap.size) 1 (.bool (a.o 1)) (mt8 (mt8 (mt1 (mt1 (mt1 mh)))))
  have ca2 := H.cell (w.heap.size) 2 (.bool (a.o 2)) (mt8 (mt8 (mt1 (mt1 (mt1 (mt1 mh))))))
  have ca3 := H.cell (w.heap.size) 3 (.bool (a.o 3)) (mt8 (mt8 (mt1 (mt1 (mt1 (mt1 (mt1 mh)))))))
  have ca4 := H.cell (w.heap.size) 4 (.bool (a.o 4)) (mt8 (mt8 (mt1 (mt1 (mt1 (mt1 (mt1 (mt1 mh))))))))
  have ca5 := H.cell (w.heap.size) 5 (.bool (a.o 5)) (mt8 (mt8 (mt1 (mt1 (mt1 (mt1 (mt1 (mt1 (mt1 mh)))))))))
  have ca6 := H.cell (w.heap.size) 6 (.bool (a.o 6)) (mt8 (mt8 (mt8 mh)))
  have ca7 := H.cell (w.heap.size) 7 (.slice aRa a.nr cRa) (mt8 (mt8 (mt8 (mt1 mh))))
  have ca8 := H.cell (w.heap.size) 8 (.slice aDa a.nd cDa) (mt8 (mt8 (mt8 (mt1 (mt1 mh)))))
  have la := H.lt (w.heap.size) 0 (.bool (a.o 0)) (mt8 (mt8 (mt1 (mt1 mh))))
  go_wp2_with fail
  clear ca0 ca1 ca2 ca3 ca4 ca5 ca6 ca7 ca8 la
  (with_reducible refine (few_any a aRa cRa aDa cDa true _ HFA.out).mono ?_)
  rintro e w2 ⟨rfl, hb⟩
  replace H := H.below hb
  clear hb
  have cb0 := H.cell (w.heap.size + 1) 0 (.bool (b.o 0)) mh
  have cb1 := H.cell (w.heap.size + 1) 1 (.bool (b.o 1)) (mt1 mh)
  have cb2 := H.cell (w.heap.size + 1) 2 (.bool (b.o 2)) (mt1 (mt1 mh))
  have cb3 := H.cell (w.heap.size + 1) 3 (.bool (b.o 3)) (mt1 (mt1 (mt1 mh)))
  have cb4 := H.cell (w.heap.size + 1) 4 (.bool (b.o 4)) (mt1 (mt1 (mt1 (mt1 mh))))
  have cb5 := H.cell (w.heap.size + 1) 5 (.bool (b.o 5)) (mt1 (mt1 (mt1 (mt1 (mt1 mh)))))
  have cb6 := H.cell (w.heap.size + 1) 6 (.bool (b.o 6)) (mt1 (mt1 (mt1 (mt1 (mt1 (mt1 mh))))))
  have cb7 := H.cell (w.heap.size + 1) 7 (.slice aRb b.nr cRb) (mt1 (mt1 (mt1 (mt1 (mt1 (mt1 (mt1 mh)))))))
  have cb8 := H.cell (w.heap.size + 1) 8 (.slice aDb b.nd cDb) (mt8 mh)
  have lb := H.lt (w.heap.size + 1) 0 (.bool (b.o 0)) mh
  go_wp2_with fail
  clear cb0 cb1 cb2 cb3 cb4 cb5 cb6 cb7 cb8 lb
  (with_reducible refine (few_any b aRb cRb aDb cDb true _ HFB.out).mono ?_)
  rintro e w3 ⟨rfl, hb⟩
  replace H := H.below hb
  clear hb
  have ca0 := H.cell (w.heap.size) 0 (.bool (a.o 0)) (mt8 (mt8 (mt1 (mt1 mh))))
  have ca1 := H.cell (w.heap.size) 1 (.bool (a.o 1)) (mt8 (mt8 (mt1 (mt1 (mt1 mh)))))
  have ca2 := H.cell (w.heap.size) 2 (.bool (a.o 2)) (mt8 (mt8 (mt1 (mt1 (mt1 (mt1 mh))))))
  have ca3 := H.cell (w.heap.size) 3 (.bool (a.o 3)) (mt8 (mt8 (mt1 (mt1 (mt1 (mt1 (mt1 mh)))))))
  have ca4 := H.cell (w.heap.size) 4 (.bool (a.o 4)) (mt8 (mt8 (mt1 (mt1 (mt1 (mt1 (mt1 (mt1 mh))))))))
  have ca5 := H.cell (w.heap.size) 5 (.bool (a.o 5)) (mt8 (mt8 (mt1 (mt1 (mt1 (mt1 (mt1 (mt1 (mt1 mh)))))))))
  have ca6 := H.cell (w.heap.size) 6 (.bool (a.o 6)) (mt8 (mt8 (mt8 mh)))
  have ca7 := H.cell (w.heap.size) 7 (.slice aRa a.nr cRa) (mt8 (mt8 (mt8 (mt1 mh))))
  have ca8 := H.cell (w.heap.size) 8 (.slice aDa a.nd cDa) (mt8 (mt8 (mt8 (mt1 (mt1 mh)))))
  have la := H.lt (w.heap.size) 0 (.bool (a.o 0)) (mt8 (mt8 (mt1 (mt1 mh))))
  go_wp2_with fail
  clear ca0 ca1 ca2 ca3 ca4 ca5 ca6 ca7 ca8 la
  (with_reducible refine (rcmay_any a aRa cRa aDa cDa false _ HZA.out (H.cal (mt32 (mt1 (mt1 (mt1 (mt1 (mt1 mh))))))) ⟨fun g => absurd g (by decide), fun g => absurd g MA.out⟩).mono ?_)
  rintro e w4 ⟨rfl, hb⟩
  replace H := H.below hb
  clear hb
  go_wp2_with fail
  go_ret
  exact ⟨rfl, H.old⟩

set_option maxHeartbeats 8000000 in
set_option maxRecDepth 100000 in
theorem caboth_4 (K : CalWay) (a : Ca) (aRa : Option Addr) (cRa : Nat) (aDa : Option Addr) (cDa : Nat) (b : Ca) (aRb : Option Addr) (cRb : Nat) (aDb : Option Addr) (cDb : Nat) (n : Int) (w : World) (hL : FactsV w) (hCa : CalAt w a aRa cRa aDa cDa) (hCb : CalAt w b aRb cRb aDb cDb) (fa : decide (a.nr ≤ 12 ∧ a.nd ≤ 60) = true) (fb : decide (b.nr ≤ 12 ∧ b.nd ≤ 60) = true) (za : a.Small) (zb : b.Small) (ma : a.May) (mb : ¬ b.May) :
    Calls Tryd.prog 5 #[.agg #[.bool (a.o 0), .bool (a.o 1), .bool (a.o 2), .bool (a.o 3), .bool (a.o 4), .bool (a.o 5), .bool (a.o 6), .slice aRa a.nr cRa, .slice aDa a.nd cDa], .agg #[.bool (b.o 0), .bool (b.o 1), .bool (b.o 2), .bool (b.o 3), .bool (b.o 4), .bool (b.o 5), .bool (b.o 6), .slice aRb b.nr cRb, .slice aDb b.nd cDb], .int .i64 n] w fun e w' => e = .returned (.bool true) ∧ Below w.heap.size w w' := by
  have H := (((Held.start w).add (f := factsVF) hL).add (f := calF a aRa cRa aDa cDa) hCa).add (f := calF b aRb cRb aDb cDb) hCb
  clear hL hCa hCb
  have HFA := Lib.hid fa
  have HFB := Lib.hid fb
  have HZA := Lib.hid za
  have HZB := Lib.hid zb
  have MA := Lib.hid ma
  have MB := Lib.hid mb
  clear fa fb za zb ma mb
  go_enter Tryd.func5, Tryd.ntmps5
  go_wp2_with fail
  replace H := ((H.box_9 (w.heap.size) (.bool (a.o 0)) (.bool (a.o 1)) (.bool (a.o 2)) (.bool (a.o 3)) (.bool (a.o 4)) (.bool (a.o 5)) (.bool (a.o 6)) (.slice aRa a.nr cRa) (.slice aDa a.nd cDa) 26 rfl).box_9 (w.heap.size + 1) (.bool (b.o 0)) (.bool (b.o 1)) (.bool (b.o 2)) (.bool (b.o 3)) (.bool (b.o 4)) (.bool (b.o 5)) (.bool (b.o 6)) (.slice aRb b.nr cRb) (.slice aDb b.nd cDb) 26 (by simp))
  (with_reducible refine (cashown_any K _ (H.factsV (mt32 (mt1 (mt1 (mt1 (mt1 (mt1 (mt1 mh))))))))).mono ?_)
  rintro e w1 ⟨rfl, hb⟩
  replace H := H.below hb
  clear hb
  have ca0 := H.cell (w.heap.size) 0 (.bool (a.o 0)) (mt8 (mt8 (mt1 (mt1 mh))))
  have ca1 := H.cell (w.heap.size) 1 (.bool (a.o 1)) (mt8 (mt8 (mt1 (mt1 (mt1 mh)))))
  have ca2 := H.cell (w.heap.size) 2 (.bool (a.o 2)) (mt8 (mt8 (mt1 (mt1 (mt1 (mt1 mh))))))
  have ca3 := H.cell (w.heap.size) 3 (.bool (a.o 3)) (mt8 (mt8 (mt1 (mt1 (mt1 (mt1 (mt1 mh)))))))
  have ca4 := H.cell (w.heap.size) 4 (.bool (a.o 4)) (mt8 (mt8 (mt1 (mt1 (mt1 (mt1 (mt1 (mt1 mh))))))))
  have ca5 := H.cell (w.heap.size) 5 (.bool (a.o 5)) (mt8 (mt8 (mt1 (mt1 (mt1 (mt1 (mt1 (mt1 (mt1 mh)))))))))
  have ca6 := H.cell (w.heap.size) 6 (.bool (a.o 6)) (mt8 (mt8 (mt8 mh)))
  have ca7 := H.cell (w.heap.size) 7 (.slice aRa a.nr cRa) (mt8 (mt8 (mt8 (mt1 mh))))
  have ca8 := H.cell (w.heap.size) 8 (.slice aDa a.nd cDa) (mt8 (mt8 (mt8 (mt1 (mt1 mh)))))
  have la := H.lt (w.heap.size) 0 (.bool (a.o 0)) (mt8 (mt8 (mt1 (mt1 mh))))
  go_wp2_with fail
  clear ca0 ca1 ca2 ca3 ca4 ca5 ca6 ca7 ca8 la
  (with_reducible refine (few_any a aRa cRa aDa cDa true _ HFA.out).mono ?_)
  rintro e w2 ⟨rfl, hb⟩
  replace H := H.below hb
  clear hb
  have cb0 := H.cell (w.heap.size + 1) 0 (.bool (b.o 0)) mh
  have cb1 := H.cell (w.heap.size + 1) 1 (.bool (b.o 1)) (mt1 mh)
  have cb2 := H.cell (w.heap.size + 1) 2 (.bool (b.o 2)) (mt1 (mt1 mh))
  have cb3 := H.cell (w.heap.size + 1) 3 (.bool (b.o 3)) (mt1 (mt1 (mt1 mh)))
  have cb4 := H.cell (w.heap.size + 1) 4 (.bool (b.o 4)) (mt1 (mt1 (mt1 (mt1 mh))))
  have cb5 := H.cell (w.heap.size + 1) 5 (.bool (b.o 5)) (mt1 (mt1 (mt1 (mt1 (mt1 mh)))))
  have cb6 := H.cell (w.heap.size + 1) 6 (.bool (b.o 6)) (mt1 (mt1 (mt1 (mt1 (mt1 (mt1 mh))))))
  have cb7 := H.cell (w.heap.size + 1) 7 (.slice aRb b.nr cRb) (mt1 (mt1 (mt1 (mt1 (mt1 (mt1 (mt1 mh)))))))
  have cb8 := H.cell (w.heap.size + 1) 8 (.slice aDb b.nd cDb) (mt8 mh)
  have lb := H.lt (w.heap.size + 1) 0 (.bool (b.o 0)) mh
  go_wp2_with fail
  clear cb0 cb1 cb2 cb3 cb4 cb5 cb6 cb7 cb8 lb
  (with_reducible refine (few_any b aRb cRb aDb cDb true _ HFB.out).mono ?_)
  rintro e w3 ⟨rfl, hb⟩
  replace H := H.below hb
  clear hb
  have ca0 := H.cell (w.heap.size) 0 (.bool (a.o 0)) (mt8 (mt8 (mt1 (mt1 mh))))
  have ca1 := H.cell (w.heap.size) 1 (.bool (a.o 1)) (mt8 (mt8 (mt1 (mt1 (mt1 mh)))))
  have ca2 := H.cell (w.heap.size) 2 (.bool (a.o 2)) (mt8 (mt8 (mt1 (mt1 (mt1 (mt1 mh))))))
  have ca3 := H.cell (w.heap.size) 3 (.bool (a.o 3)) (mt8 (mt8 (mt1 (mt1 (mt1 (mt1 (mt1 mh)))))))
  have ca4 := H.cell (w.heap.size) 4 (.bool (a.o 4)) (mt8 (mt8 (mt1 (mt1 (mt1 (mt1 (mt1 (mt1 mh))))))))
  have ca5 := H.cell (w.heap.size) 5 (.bool (a.o 5)) (mt8 (mt8 (mt1 (mt1 (mt1 (mt1 (mt1 (mt1 (mt1 mh)))))))))
  have ca6 := H.cell (w.heap.size) 6 (.bool (a.o 6)) (mt8 (mt8 (mt8 mh)))
  have ca7 := H.cell (w.heap.size) 7 (.slice aRa a.nr cRa) (mt8 (mt8 (mt8 (mt1 mh))))
  have ca8 := H.cell (w.heap.size) 8 (.slice aDa a.nd cDa) (mt8 (mt8 (mt8 (mt1 (mt1 mh)))))
  have la := H.lt (w.heap.size) 0 (.bool (a.o 0)) (mt8 (mt8 (mt1 (mt1 mh))))
  go_wp2_with fail
  clear ca0 ca1 ca2 ca3 ca4 ca5 ca6 ca7 ca8 la
  (with_reducible refine (rcmay_any a aRa cRa aDa cDa true _ HZA.out (H.cal (mt32 (mt1 (mt1 (mt1 (mt1 (mt1 mh))))))) ⟨fun _ => MA.out, fun _ => rfl⟩).mono ?_)
  rintro e w4 ⟨rfl, hb⟩
  replace H := H.below hb
  clear hb
  have cb0 := H.cell (w.heap.size + 1) 0 (.bool (b.o 0)) mh
  have cb1 := H.cell (w.heap.size + 1) 1 (.bool (b.o 1)) (mt1 mh)
  have cb2 := H.cell (w.heap.size + 1) 2 (.bool (b.o 2)) (mt1 (mt1 mh))
  have cb3 := H.cell (w.heap.size + 1) 3 (.bool (b.o 3)) (mt1 (mt1 (mt1 mh)))
  have cb4 := H.cell (w.heap.size + 1) 4 (.bool (b.o 4)) (mt1 (mt1 (mt1 (mt1 mh))))
  have cb5 := H.cell (w.heap.size + 1) 5 (.bool (b.o 5)) (mt1 (mt1 (mt1 (mt1 (mt1 mh)))))
  have cb6 := H.cell (w.heap.size + 1) 6 (.bool (b.o 6)) (mt1 (mt1 (mt1 (mt1 (mt1 (mt1 mh))))))
  have cb7 := H.cell (w.heap.size + 1) 7 (.slice aRb b.nr cRb) (mt1 (mt1 (mt1 (mt1 (mt1 (mt1 (mt1 mh)))))))
  have cb8 := H.cell (w.heap.size + 1) 8 (.slice aDb b.nd cDb) (mt8 mh)
  have lb := H.lt (w.heap.size + 1) 0 (.bool (b.o 0)) mh
  go_wp2_with fail
  clear cb0 cb1 cb2 cb3 cb4 cb5 cb6 cb7 cb8 lb
  (with_reducible refine (rcmay_any b aRb cRb aDb cDb false _ HZB.out (H.cal (mt32 (mt1 (mt1 (mt1 (mt1 mh)))))) ⟨fun g => absurd g (by decide), fun g => absurd g MB.out⟩).mono ?_)
  rintro e w5 ⟨rfl, hb⟩
  replace H := H.below hb
  clear hb
  go_wp2_with fail
  go_ret
  exact ⟨rfl, H.old⟩

set_option maxHeartbeats 8000000 in
set_option maxRecDepth 100000 in
theorem caboth_nt (K : CalWay) (a : Ca) (aRa : Option Addr) (cRa : Nat) (aDa : Option Addr) (cDa : Nat) (b : Ca) (aRb : Option Addr) (cRb : Nat) (aDb : Option Addr) (cDb : Nat) (n : Int) (w : World) (hL : FactsV w) (hCa : CalAt w a aRa cRa aDa cDa) (hCb : CalAt w b aRb cRb aDb cDb) (fa : decide (a.nr ≤ 12 ∧ a.nd ≤ 60) = true) (fb : decide (b.nr ≤ 12 ∧ b.nd ≤ 60) = true) (za : a.Small) (zb : b.Small) (ea : a.Few) (eb : b.Few) (ma : a.May) (mb : b.May) (mz : (a.un a).May) (hp : a.Is n) (mx : ¬ (a.un b).May) (my : ¬ (b.un a).May) :
    Calls Tryd.prog 5 #[.agg #[.bool (a.o 0), .bool (a.o 1), .bool (a.o 2), .bool (a.o 3), .bool (a.o 4), .bool (a.o 5), .bool (a.o 6), .slice aRa a.nr cRa, .slice aDa a.nd cDa], .agg #[.bool (b.o 0), .bool (b.o 1), .bool (b.o 2), .bool (b.o 3), .bool (b.o 4), .bool (b.o 5), .bool (b.o 6), .slice aRb b.nr cRb, .slice aDb b.nd cDb], .int .i64 n] w fun e w' => e = .returned (.bool true) ∧ Below w.heap.size w w' := by
  have H := (((Held.start w).add (f := factsVF) hL).add (f := calF a aRa cRa aDa cDa) hCa).add (f := calF b aRb cRb aDb cDb) hCb
  clear hL hCa hCb
  have HFA := Lib.hid fa
  have HFB := Lib.hid fb
  have HZA := Lib.hid za
  have HZB := Lib.hid zb
  have EA := Lib.hid ea
  have EB := Lib.hid eb
  have MA := Lib.hid ma
  have MB := Lib.hid mb
  have MZ := Lib.hid mz
  have HP := Lib.hid hp
  have MX := Lib.hid mx
  have MY := Lib.hid my
  clear fa fb za zb ea eb ma mb mz hp mx my
  go_enter Tryd.func5, Tryd.ntmps5
  go_wp2_with fail
  replace H := ((H.box_9 (w.heap.size) (.bool (a.o 0)) (.bool (a.o 1)) (.bool (a.o 2)) (.bool (a.o 3)) (.bool (a.o 4)) (.bool (a.o 5)) (.bool (a.o 6)) (.slice aRa a.nr cRa) (.slice aDa a.nd cDa) 26 rfl).box_9 (w.heap.size + 1) (.bool (b.o 0)) (.bool (b.o 1)) (.bool (b.o 2)) (.bool (b.o 3)) (.bool (b.o 4)) (.bool (b.o 5)) (.bool (b.o 6)) (.slice aRb b.nr cRb) (.slice aDb b.nd cDb) 26 (by simp))
  (with_reducible refine (cashown_any K _ (H.factsV (mt32 (mt1 (mt1 (mt1 (mt1 (mt1 (mt1 mh))))))))).mono ?_)
  rintro e w1 ⟨rfl, hb⟩
  replace H := H.below hb
  clear hb
  have ca0 := H.cell (w.heap.size) 0 (.bool (a.o 0)) (mt8 (mt8 (mt1 (mt1 mh))))
  have ca1 := H.cell (w.heap.size) 1 (.bool (a.o 1)) (mt8 (mt8 (mt1 (mt1 (mt1 mh)))))
  have ca2 := H.cell (w.heap.size) 2 (.bool (a.o 2)) (mt8 (mt8 (mt1 (mt1 (mt1 (mt1 mh))))))
  have ca3 := H.cell (w.heap.size) 3 (.bool (a.o 3)) (mt8 (mt8 (mt1 (mt1 (mt1 (mt1 (mt1 mh)))))))
  have ca4 := H.cell (w.heap.size) 4 (.bool (a.o 4)) (mt8 (mt8 (mt1 (mt1 (mt1 (mt1 (mt1 (mt1 mh))))))))
  have ca5 := H.cell (w.heap.size) 5 (.bool (a.o 5)) (mt8 (mt8 (mt1 (mt1 (mt1 (mt1 (mt1 (mt1 (mt1 mh)))))))))
  have ca6 := H.cell (w.heap.size) 6 (.bool (a.o 6)) (mt8 (mt8 (mt8 mh)))
  have ca7 := H.cell (w.heap.size) 7 (.slice aRa a.nr cRa) (mt8 (mt8 (mt8 (mt1 mh))))
  have ca8 := H.cell (w.heap.size) 8 (.slice aDa a.nd cDa) (mt8 (mt8 (mt8 (mt1 (mt1 mh)))))
  have la := H.lt (w.heap.size) 0 (.bool (a.o 0)) (mt8 (mt8 (mt1 (mt1 mh))))
  go_wp2_with fail
  clear ca0 ca1 ca2 ca3 ca4 ca5 ca6 ca7 ca8 la
  (with_reducible refine (few_any a aRa cRa aDa cDa true _ HFA.out).mono ?_)
  rintro e w2 ⟨rfl, hb⟩
  replace H := H.below hb
  clear hb
  have cb0 := H.cell (w.heap.size + 1) 0 (.bool (b.o 0)) mh
  have cb1 := H.cell (w.heap.size + 1) 1 (.bool (b.o 1)) (mt1 mh)
  have cb2 := H.cell (w.heap.size + 1) 2 (.bool (b.o 2)) (mt1 (mt1 mh))
  have cb3 := H.cell (w.heap.size + 1) 3 (.bool (b.o 3)) (mt1 (mt1 (mt1 mh)))
  have cb4 := H.cell (w.heap.size + 1) 4 (.bool (b.o 4)) (mt1 (mt1 (mt1 (mt1 mh))))
  have cb5 := H.cell (w.heap.size + 1) 5 (.bool (b.o 5)) (mt1 (mt1 (mt1 (mt1 (mt1 mh)))))
  have cb6 := H.cell (w.heap.size + 1) 6 (.bool (b.o 6)) (mt1 (mt1 (mt1 (mt1 (mt1 (mt1 mh))))))
  have cb7 := H.cell (w.heap.size + 1) 7 (.slice aRb b.nr cRb) (mt1 (mt1 (mt1 (mt1 (mt1 (mt1 (mt1 mh)))))))
  have cb8 := H.cell (w.heap.size + 1) 8 (.slice aDb b.nd cDb) (mt8 mh)
  have lb := H.lt (w.heap.size + 1) 0 (.bool (b.o 0)) mh
  go_wp2_with fail
  clear cb0 cb1 cb2 cb3 cb4 cb5 cb6 cb7 cb8 lb
  (with_reducible refine (few_any b aRb cRb aDb cDb true _ HFB.out).mono ?_)
  rintro e w3 ⟨rfl, hb⟩
  replace H := H.below hb
  clear hb
  have ca0 := H.cell (w.heap.size) 0 (.bool (a.o 0)) (mt8 (mt8 (mt1 (mt1 mh))))
  have ca1 := H.cell (w.heap.size) 1 (.bool (a.o 1)) (mt8 (mt8 (mt1 (mt1 (mt1 mh)))))
  have ca2 := H.cell (w.heap.size) 2 (.bool (a.o 2)) (mt8 (mt8 (mt1 (mt1 (mt1 (mt1 mh))))))
  have ca3 := H.cell (w.heap.size) 3 (.bool (a.o 3)) (mt8 (mt8 (mt1 (mt1 (mt1 (mt1 (mt1 mh)))))))
  have ca4 := H.cell (w.heap.size) 4 (.bool (a.o 4)) (mt8 (mt8 (mt1 (mt1 (mt1 (mt1 (mt1 (mt1 mh))))))))
  have ca5 := H.cell (w.heap.size) 5 (.bool (a.o 5)) (mt8 (mt8 (mt1 (mt1 (mt1 (mt1 (mt1 (mt1 (mt1 mh)))))))))
  have ca6 := H.cell (w.heap.size) 6 (.bool (a.o 6)) (mt8 (mt8 (mt8 mh)))
  have ca7 := H.cell (w.heap.size) 7 (.slice aRa a.nr cRa) (mt8 (mt8 (mt8 (mt1 mh))))
  have ca8 := H.cell (w.heap.size) 8 (.slice aDa a.nd cDa) (mt8 (mt8 (mt8 (mt1 (mt1 mh)))))
  have la := H.lt (w.heap.size) 0 (.bool (a.o 0)) (mt8 (mt8 (mt1 (mt1 mh))))
  go_wp2_with fail
  clear ca0 ca1 ca2 ca3 ca4 ca5 ca6 ca7 ca8 la
  (with_reducible refine (rcmay_any a aRa cRa aDa cDa true _ HZA.out (H.cal (mt32 (mt1 (mt1 (mt1 (mt1 (mt1 mh))))))) ⟨fun _ => MA.out, fun _ => rfl⟩).mono ?_)
  rintro e w4 ⟨rfl, hb⟩
  replace H := H.below hb
  clear hb
  have cb0 := H.cell (w.heap.size + 1) 0 (.bool (b.o 0)) mh
  have cb1 := H.cell (w.heap.size + 1) 1 (.bool (b.o 1)) (mt1 mh)
  have cb2 := H.cell (w.heap.size + 1) 2 (.bool (b.o 2)) (mt1 (mt1 mh))
  have cb3 := H.cell (w.heap.size + 1) 3 (.bool (b.o 3)) (mt1 (mt1 (mt1 mh)))
  have cb4 := H.cell (w.heap.size + 1) 4 (.bool (b.o 4)) (mt1 (mt1 (mt1 (mt1 mh))))
  have cb5 := H.cell (w.heap.size + 1) 5 (.bool (b.o 5)) (mt1 (mt1 (mt1 (mt1 (mt1 mh)))))
  have cb6 := H.cell (w.heap.size + 1) 6 (.bool (b.o 6)) (mt1 (mt1 (mt1 (mt1 (mt1 (mt1 mh))))))
  have cb7 := H.cell (w.heap.size + 1) 7 (.slice aRb b.nr cRb) (mt1 (mt1 (mt1 (mt1 (mt1 (mt1 (mt1 mh)))))))
  have cb8 := H.cell (w.heap.size + 1) 8 (.slice aDb b.nd cDb) (mt8 mh)
  have lb := H.lt (w.heap.size + 1) 0 (.bool (b.o 0)) mh
  go_wp2_with fail
  clear cb0 cb1 cb2 cb3 cb4 cb5 cb6 cb7 cb8 lb
  (with_reducible refine (rcmay_any b aRb cRb aDb cDb true _ HZB.out (H.cal (mt32 (mt1 (mt1 (mt1 (mt1 mh)))))) ⟨fun _ => MB.out, fun _ => rfl⟩).mono ?_)
  rintro e w5 ⟨rfl, hb⟩
  replace H := H.below hb
  clear hb
  have ca0 := H.cell (w.heap.size) 0 (.bool (a.o 0)) (mt8 (mt8 (mt1 (mt1 mh))))
  have ca1 := H.cell (w.heap.size) 1 (.bool (a.o 1)) (mt8 (mt8 (mt1 (mt1 (mt1 mh)))))
  have ca2 := H.cell (w.heap.size) 2 (.bool (a.o 2)) (mt8 (mt8 (mt1 (mt1 (mt1 (mt1 mh))))))
  have ca3 := H.cell (w.heap.size) 3 (.bool (a.o 3)) (mt8 (mt8 (mt1 (mt1 (mt1 (mt1 (mt1 mh)))))))
  have ca4 := H.cell (w.heap.size) 4 (.bool (a.o 4)) (mt8 (mt8 (mt1 (mt1 (mt1 (mt1 (mt1 (mt1 mh))))))))
  have ca5 := H.cell (w.heap.size) 5 (.bool (a.o 5)) (mt8 (mt8 (mt1 (mt1 (mt1 (mt1 (mt1 (mt1 (mt1 mh)))))))))
  have ca6 := H.cell (w.heap.size) 6 (.bool (a.o 6)) (mt8 (mt8 (mt8 mh)))
  have ca7 := H.cell (w.heap.size) 7 (.slice aRa a.nr cRa) (mt8 (mt8 (mt8 (mt1 mh))))
  have ca8 := H.cell (w.heap.size) 8 (.slice aDa a.nd cDa) (mt8 (mt8 (mt8 (mt1 (mt1 mh)))))
  have la := H.lt (w.heap.size) 0 (.bool (a.o 0)) (mt8 (mt8 (mt1 (mt1 mh))))
  have cb0 := H.cell (w.heap.size + 1) 0 (.bool (b.o 0)) mh
  have cb1 := H.cell (w.heap.size + 1) 1 (.bool (b.o 1)) (mt1 mh)
  have cb2 := H.cell (w.heap.size + 1) 2 (.bool (b.o 2)) (mt1 (mt1 mh))
  have cb3 := H.cell (w.heap.size + 1) 3 (.bool (b.o 3)) (mt1 (mt1 (mt1 mh)))
  have cb4 := H.cell (w.heap.size + 1) 4 (.bool (b.o 4)) (mt1 (mt1 (mt1 (mt1 mh))))
  have cb5 := H.cell (w.heap.size + 1) 5 (.bool (b.o 5)) (mt1 (mt1 (mt1 (mt1 (mt1 mh)))))
  have cb6 := H.cell (w.heap.size + 1) 6 (.bool (b.o 6)) (mt1 (mt1 (mt1 (mt1 (mt1 (mt1 mh))))))
  have cb7 := H.cell (w.heap.size + 1) 7 (.slice aRb b.nr cRb) (mt1 (mt1 (mt1 (mt1 (mt1 (mt1 (mt1 mh)))))))
  have cb8 := H.cell (w.heap.size + 1) 8 (.slice aDb b.nd cDb) (mt8 mh)
  have lb := H.lt (w.heap.size + 1) 0 (.bool (b.o 0)) mh
  go_wp2_with fail
  clear ca0 ca1 ca2 ca3 ca4 ca5 ca6 ca7 ca8 la cb0 cb1 cb2 cb3 cb4 cb5 cb6 cb7 cb8 lb
  (with_reducible refine (qun K a aRa cRa aDa cDa b aRb cRb aDb cDb _ (H.factsV (mt32 (mt1 (mt1 (mt1 (mt1 (mt1 (mt1 mh)))))))) EA.out EB.out MA.out MB.out (H.cal (mt32 (mt1 (mt1 (mt1 (mt1 (mt1 mh))))))) (H.cal (mt32 (mt1 (mt1 (mt1 (mt1 mh)))))) MX.out).mono ?_)
  rintro e w6 ⟨rfl, hb⟩
  replace H := H.below hb
  clear hb
  have ca0 := H.cell (w.heap.size) 0 (.bool (a.o 0)) (mt8 (mt8 (mt1 (mt1 mh))))
  have ca1 := H.cell (w.heap.size) 1 (.bool (a.o 1)) (mt8 (mt8 (mt1 (mt1 (mt1 mh)))))
  have ca2 := H.cell (w.heap.size) 2 (.bool (a.o 2)) (mt8 (mt8 (mt1 (mt1 (mt1 (mt1 mh))))))
  have ca3 := H.cell (w.heap.size) 3 (.bool (a.o 3)) (mt8 (mt8 (mt1 (mt1 (mt1 (mt1 (mt1 mh)))))))
  have ca4 := H.cell (w.heap.size) 4 (.bool (a.o 4)) (mt8 (mt8 (mt1 (mt1 (mt1 (mt1 (mt1 (mt1 mh))))))))
  have ca5 := H.cell (w.heap.size) 5 (.bool (a.o 5)) (mt8 (mt8 (mt1 (mt1 (mt1 (mt1 (mt1 (mt1 (mt1 mh)))))))))
  have ca6 := H.cell (w.heap.size) 6 (.bool (a.o 6)) (mt8 (mt8 (mt8 mh)))
  have ca7 := H.cell (w.heap.size) 7 (.slice aRa a.nr cRa) (mt8 (mt8 (mt8 (mt1 mh))))
  have ca8 := H.cell (w.heap.size) 8 (.slice aDa a.nd cDa) (mt8 (mt8 (mt8 (mt1 (mt1 mh)))))
  have la := H.lt (w.heap.size) 0 (.bool (a.o 0)) (mt8 (mt8 (mt1 (mt1 mh))))
  have cb0 := H.cell (w.heap.size + 1) 0 (.bool (b.o 0)) mh
  have cb1 := H.cell (w.heap.size + 1) 1 (.bool (b.o 1)) (mt1 mh)
  have cb2 := H.cell (w.heap.size + 1) 2 (.bool (b.o 2)) (mt1 (mt1 mh))
  have cb3 := H.cell (w.heap.size + 1) 3 (.bool (b.o 3)) (mt1 (mt1 (mt1 mh)))
  have cb4 := H.cell (w.heap.size + 1) 4 (.bool (b.o 4)) (mt1 (mt1 (mt1 (mt1 mh))))
  have cb5 := H.cell (w.heap.size + 1) 5 (.bool (b.o 5)) (mt1 (mt1 (mt1 (mt1 (mt1 mh)))))
  have cb6 := H.cell (w.heap.size + 1) 6 (.bool (b.o 6)) (mt1 (mt1 (mt1 (mt1 (mt1 (mt1 mh))))))
  have cb7 := H.cell (w.heap.size + 1) 7 (.slice aRb b.nr cRb) (mt1 (mt1 (mt1 (mt1 (mt1 (mt1 (mt1 mh)))))))
  have cb8 := H.cell (w.heap.size + 1) 8 (.slice aDb b.nd cDb) (mt8 mh)
  have lb := H.lt (w.heap.size + 1) 0 (.bool (b.o 0)) mh
  go_wp2_with fail
  clear ca0 ca1 ca2 ca3 ca4 ca5 ca6 ca7 ca8 la cb0 cb1 cb2 cb3 cb4 cb5 cb6 cb7 cb8 lb
  replace H := (H.box_9 (w6.heap.size) (.bool false) (.bool false) (.bool false) (.bool false) (.bool false) (.bool false) (.bool false) (.slice none 0 0) (.slice none 0 0) 26 rfl)
  (with_reducible refine (qun K b aRb cRb aDb cDb a aRa cRa aDa cDa _ (H.factsV (mt32 (mt8 (mt8 (mt8 mh))))) EB.out EA.out MB.out MA.out (H.cal (mt32 (mt8 (mt8 (mt1 (mt1 (mt1 (mt1 (mt1 (mt1 mh)))))))))) (H.cal (mt32 (mt8 (mt8 (mt1 (mt1 (mt1 (mt1 (mt1 (mt1 (mt1 mh))))))))))) MY.out).mono ?_)
  rintro e w7 ⟨rfl, hb⟩
  replace H := H.below hb
  clear hb
  have ca0 := H.cell (w.heap.size) 0 (.bool (a.o 0)) (mt32 (mt1 (mt1 (mt1 (mt1 mh)))))
  have ca1 := H.cell (w.heap.size) 1 (.bool (a.o 1)) (mt32 (mt1 (mt1 (mt1 (mt1 (mt1 mh))))))
  have ca2 := H.cell (w.heap.size) 2 (.bool (a.o 2)) (mt32 (mt1 (mt1 (mt1 (mt1 (mt1 (mt1 mh)))))))
  have ca3 := H.cell (w.heap.size) 3 (.bool (a.o 3)) (mt32 (mt1 (mt1 (mt1 (mt1 (mt1 (mt1 (mt1 mh))))))))
  have ca4 := H.cell (w.heap.size) 4 (.bool (a.o 4)) (mt32 (mt8 mh))
  have ca5 := H.cell (w.heap.size) 5 (.bool (a.o 5)) (mt32 (mt8 (mt1 mh)))
  have ca6 := H.cell (w.heap.size) 6 (.bool (a.o 6)) (mt32 (mt8 (mt1 (mt1 mh))))
  have ca7 := H.cell (w.heap.size) 7 (.slice aRa a.nr cRa) (mt32 (mt8 (mt1 (mt1 (mt1 mh)))))
  have ca8 := H.cell (w.heap.size) 8 (.slice aDa a.nd cDa) (mt32 (mt8 (mt1 (mt1 (mt1 (mt1 mh))))))
  have la := H.lt (w.heap.size) 0 (.bool (a.o 0)) (mt32 (mt1 (mt1 (mt1 (mt1 mh)))))
  go_wp2_with fail
  clear ca0 ca1 ca2 ca3 ca4 ca5 ca6 ca7 ca8 la
  replace H := (H.box_9 (w7.heap.size) (.bool false) (.bool false) (.bool false) (.bool false) (.bool false) (.bool false) (.bool false) (.slice none 0 0) (.slice none 0 0) 26 rfl)
  (with_reducible refine (quz K a aRa cRa aDa cDa _ (H.factsV (mt32 (mt32 (mt8 (mt1 (mt1 mh)))))) EA.out MA.out (H.cal (mt32 (mt32 (mt8 (mt1 mh))))) MZ.out).mono ?_)
  rintro e w8 ⟨aRz, cRz, aDz, cDz, rfl, hC, hb⟩
  replace H := H.below hb
  clear hb
  replace H := H.add (f := calF (a.un a) aRz cRz aDz cDz) hC
  clear hC
  have ca0 := H.cell (w.heap.size) 0 (.bool (a.o 0)) (mt32 (mt8 (mt8 (mt1 (mt1 (mt1 (mt1 (mt1 (mt1 (mt1 mh))))))))))
  have ca1 := H.cell (w.heap.size) 1 (.bool (a.o 1)) (mt32 (mt8 (mt8 (mt8 mh))))
  have ca2 := H.cell (w.heap.size) 2 (.bool (a.o 2)) (mt32 (mt8 (mt8 (mt8 (mt1 mh)))))
  have ca3 := H.cell (w.heap.size) 3 (.bool (a.o 3)) (mt32 (mt8 (mt8 (mt8 (mt1 (mt1 mh))))))
  have ca4 := H.cell (w.heap.size) 4 (.bool (a.o 4)) (mt32 (mt8 (mt8 (mt8 (mt1 (mt1 (mt1 mh)))))))
  have ca5 := H.cell (w.heap.size) 5 (.bool (a.o 5)) (mt32 (mt8 (mt8 (mt8 (mt1 (mt1 (mt1 (mt1 mh))))))))
  have ca6 := H.cell (w.heap.size) 6 (.bool (a.o 6)) (mt32 (mt8 (mt8 (mt8 (mt1 (mt1 (mt1 (mt1 (mt1 mh)))))))))
  have ca7 := H.cell (w.heap.size) 7 (.slice aRa a.nr cRa) (mt32 (mt8 (mt8 (mt8 (mt1 (mt1 (mt1 (mt1 (mt1 (mt1 mh))))))))))
  have ca8 := H.cell (w.heap.size) 8 (.slice aDa a.nd cDa) (mt32 (mt8 (mt8 (mt8 (mt1 (mt1 (mt1 (mt1 (mt1 (mt1 (mt1 mh)))))))))))
  have la := H.lt (w.heap.size) 0 (.bool (a.o 0)) (mt32 (mt8 (mt8 (mt1 (mt1 (mt1 (mt1 (mt1 (mt1 (mt1 mh))))))))))
  go_wp2_with fail
  clear ca0 ca1 ca2 ca3 ca4 ca5 ca6 ca7 ca8 la
  replace H := (H.box_9 (w8.heap.size) (.bool (a.o 0)) (.bool (a.o 1)) (.bool (a.o 2)) (.bool (a.o 3)) (.bool (a.o 4)) (.bool (a.o 5)) (.bool (a.o 6)) (.slice aRz (a.un a).nr cRz) (.slice aDz (a.un a).nd cDz) 26 rfl)
  have KS : Hid (∀ w' : World, Held w [.cell (w8.heap.size) 0 (.bool (a.o 0)), .cell (w8.heap.size) 1 (.bool (a.o 1)), .cell (w8.heap.size) 2 (.bool (a.o 2)), .cell (w8.heap.size) 3 (.bool (a.o 3)), .cell (w8.heap.size) 4 (.bool (a.o 4)), .cell (w8.heap.size) 5 (.bool (a.o 5)), .cell (w8.heap.size) 6 (.bool (a.o 6)), .cell (w8.heap.size) 7 (.slice aRz (a.un a).nr cRz), .cell (w8.heap.size) 8 (.slice aDz (a.un a).nd cDz), .free (w8.heap.size) 0, .free (w8.heap.size) 1, .free (w8.heap.size) 2, .free (w8.heap.size) 3, .free (w8.heap.size) 4, .free (w8.heap.size) 5, .free (w8.heap.size) 6, .free (w8.heap.size) 7, .free (w8.heap.size) 8, calF (a.un a) aRz cRz aDz cDz, .cell (w7.heap.size) 0 (.bool false), .cell (w7.heap.size) 1 (.bool false), .cell (w7.heap.size) 2 (.bool false), .cell (w7.heap.size) 3 (.bool false), .cell (w7.heap.size) 4 (.bool false), .cell (w7.heap.size) 5 (.bool false), .cell (w7.heap.size) 6 (.bool false), .cell (w7.heap.size) 7 (.slice none 0 0), .cell (w7.heap.size) 8 (.slice none 0 0), .free (w7.heap.size) 0, .free (w7.heap.size) 1, .free (w7.heap.size) 2, .free (w7.heap.size) 3, .free (w7.heap.size) 4, .free (w7.heap.size) 5, .free (w7.heap.size) 6, .free (w7.heap.size) 7, .free (w7.heap.size) 8, .cell (w6.heap.size) 0 (.bool false), .cell (w6.heap.size) 1 (.bool false), .cell (w6.heap.size) 2 (.bool false), .cell (w6.heap.size) 3 (.bool false), .cell (w6.heap.size) 4 (.bool false), .cell (w6.heap.size) 5 (.bool false), .cell (w6.heap.size) 6 (.bool false), .cell (w6.heap.size) 7 (.slice none 0 0), .cell (w6.heap.size) 8 (.slice none 0 0), .free (w6.heap.size) 0, .free (w6.heap.size) 1, .free (w6.heap.size) 2, .free (w6.heap.size) 3, .free (w6.heap.size) 4, .free (w6.heap.size) 5, .free (w6.heap.size) 6, .free (w6.heap.size) 7, .free (w6.heap.size) 8, .cell (w.heap.size + 1) 0 (.bool (b.o 0)), .cell (w.heap.size + 1) 1 (.bool (b.o 1)), .cell (w.heap.size + 1) 2 (.bool (b.o 2)), .cell (w.heap.size + 1) 3 (.bool (b.o 3)), .cell (w.heap.size + 1) 4 (.bool (b.o 4)), .cell (w.heap.size + 1) 5 (.bool (b.o 5)), .cell (w.heap.size + 1) 6 (.bool (b.o 6)), .cell (w.heap.size + 1) 7 (.slice aRb b.nr cRb), .cell (w.heap.size + 1) 8 (.slice aDb b.nd cDb), .free (w.heap.size + 1) 0, .free (w.heap.size + 1) 1, .free (w.heap.size + 1) 2, .free (w.heap.size + 1) 3, .free (w.heap.size + 1) 4, .free (w.heap.size + 1) 5, .free (w.heap.size + 1) 6, .free (w.heap.size + 1) 7, .free (w.heap.size + 1) 8, .cell (w.heap.size) 0 (.bool (a.o 0)), .cell (w.heap.size) 1 (.bool (a.o 1)), .cell (w.heap.size) 2 (.bool (a.o 2)), .cell (w.heap.size) 3 (.bool (a.o 3)), .cell (w.heap.size) 4 (.bool (a.o 4)), .cell (w.heap.size) 5 (.bool (a.o 5)), .cell (w.heap.size) 6 (.bool (a.o 6)), .cell (w.heap.size) 7 (.slice aRa a.nr cRa), .cell (w.heap.size) 8 (.slice aDa a.nd cDa), .free (w.heap.size) 0, .free (w.heap.size) 1, .free (w.heap.size) 2, .free (w.heap.size) 3, .free (w.heap.size) 4, .free (w.heap.size) 5, .free (w.heap.size) 6, .free (w.heap.size) 7, .free (w.heap.size) 8, calF b aRb cRb aDb cDb, calF a aRa cRa aDa cDa, factsVF] w' → w'.cell? ⟨w8.heap.size, 0, none⟩ = some (.bool (a.o 0)) ∧ w'.cell? ⟨w8.heap.size, 1, none⟩ = some (.bool (a.o 1)) ∧ w'.cell? ⟨w8.heap.size, 2, none⟩ = some (.bool (a.o 2)) ∧ w'.cell? ⟨w8.heap.size, 3, none⟩ = some (.bool (a.o 3)) ∧ w'.cell? ⟨w8.heap.size, 4, none⟩ = some (.bool (a.o 4)) ∧ w'.cell? ⟨w8.heap.size, 5, none⟩ = some (.bool (a.o 5)) ∧ w'.cell? ⟨w8.heap.size, 6, none⟩ = some (.bool (a.o 6)) ∧ w'.cell? ⟨w8.heap.size, 7, none⟩ = some (.slice aRz (a.un a).nr cRz) ∧ w'.cell? ⟨w8.heap.size, 8, none⟩ = some (.slice aDz (a.un a).nd cDz) ∧ w'.cell? ⟨w.heap.size, 0, none⟩ = some (.bool (a.o 0)) ∧ w'.cell? ⟨w.heap.size, 1, none⟩ = some (.bool (a.o 1)) ∧ w'.cell? ⟨w.heap.size, 2, none⟩ = some (.bool (a.o 2)) ∧ w'.cell? ⟨w.heap.size, 3, none⟩ = some (.bool (a.o 3)) ∧ w'.cell? ⟨w.heap.size, 4, none⟩ = some (.bool (a.o 4)) ∧ w'.cell? ⟨w.heap.size, 5, none⟩ = some (.bool (a.o 5)) ∧ w'.cell? ⟨w.heap.size, 6, none⟩ = some (.bool (a.o 6)) ∧ w'.cell? ⟨w.heap.size, 7, none⟩ = some (.slice aRa a.nr cRa) ∧ w'.cell? ⟨w.heap.size, 8, none⟩ = some (.slice aDa a.nd cDa) ∧ Held w [.cell (w8.heap.size) 0 (.bool (a.o 0)), .cell (w8.heap.size) 1 (.bool (a.o 1)), .cell (w8.heap.size) 2 (.bool (a.o 2)), .cell (w8.heap.size) 3 (.bool (a.o 3)), .cell (w8.heap.size) 4 (.bool (a.o 4)), .cell (w8.heap.size) 5 (.bool (a.o 5)), .cell (w8.heap.size) 6 (.bool (a.o 6)), .cell (w8.heap.size) 7 (.slice aRz (a.un a).nr cRz), .cell (w8.heap.size) 8 (.slice aDz (a.un a).nd cDz), .free (w8.heap.size) 0, .free (w8.heap.size) 1, .free (w8.heap.size) 2, .free (w8.heap.size) 3, .free (w8.heap.size) 4, .free (w8.heap.size) 5, .free (w8.heap.size) 6, .free (w8.heap.size) 7, .free (w8.heap.size) 8, calF (a.un a) aRz cRz aDz cDz, .cell (w7.heap.size) 0 (.bool false), .cell (w7.heap.size) 1 (.bool false), .cell (w7.heap.size) 2 (.bool false), .cell (w7.heap.size) 3 (.bool false), .cell (w7.heap.size) 4 (.bool false), .cell (w7.heap.size) 5 (.bool false), .cell (w7.heap.size) 6 (.bool false), .cell (w7.heap.size) 7 (.slice none 0 0), .cell (w7.heap.size) 8 (.slice none 0 0), .free (w7.heap.size) 0, .free (w7.heap.size) 1, .free (w7.heap.size) 2, .free (w7.heap.size) 3, .free (w7.heap.size) 4, .free (w7.heap.size) 5, .free (w7.heap.size) 6, .free (w7.heap.size) 7, .free (w7.heap.size) 8, .cell (w6.heap.size) 0 (.bool false), .cell (w6.heap.size) 1 (.bool false), .cell (w6.heap.size) 2 (.bool false), .cell (w6.heap.size) 3 (.bool false), .cell (w6.heap.size) 4 (.bool false), .cell (w6.heap.size) 5 (.bool false), .cell (w6.heap.size) 6 (.bool false), .cell (w6.heap.size) 7 (.slice none 0 0), .cell (w6.heap.size) 8 (.slice none 0 0), .free (w6.heap.size) 0, .free (w6.heap.size) 1, .free (w6.heap.size) 2, .free (w6.heap.size) 3, .free (w6.heap.size) 4, .free (w6.heap.size) 5, .free (w6.heap.size) 6, .free (w6.heap.size) 7, .free (w6.heap.size) 8, .cell (w.heap.size + 1) 0 (.bool (b.o 0)), .cell (w.heap.size + 1) 1 (.bool (b.o 1)), .cell (w.heap.size + 1) 2 (.bool (b.o 2)), .cell (w.heap.size + 1) 3 (.bool (b.o 3)), .cell (w.heap.size + 1) 4 (.bool (b.o 4)), .cell (w.heap.size + 1) 5 (.bool (b.o 5)), .cell (w.heap.size + 1) 6 (.bool (b.o 6)), .cell (w.heap.size + 1) 7 (.slice aRb b.nr cRb), .cell (w.heap.size + 1) 8 (.slice aDb b.nd cDb), .free (w.heap.size + 1) 0, .free (w.heap.size + 1) 1, .free (w.heap.size + 1) 2, .free (w.heap.size + 1) 3, .free (w.heap.size + 1) 4, .free (w.heap.size + 1) 5, .free (w.heap.size + 1) 6, .free (w.heap.size + 1) 7, .free (w.heap.size + 1) 8, .cell (w.heap.size) 0 (.bool (a.o 0)), .cell (w.heap.size) 1 (.bool (a.o 1)), .cell (w.heap.size) 2 (.bool (a.o 2)), .cell (w.heap.size) 3 (.bool (a.o 3)), .cell (w.heap.size) 4 (.bool (a.o 4)), .cell (w.heap.size) 5 (.bool (a.o 5)), .cell (w.heap.size) 6 (.bool (a.o 6)), .cell (w.heap.size) 7 (.slice aRa a.nr cRa), .cell (w.heap.size) 8 (.slice aDa a.nd cDa), .free (w.heap.size) 0, .free (w.heap.size) 1, .free (w.heap.size) 2, .free (w.heap.size) 3, .free (w.heap.size) 4, .free (w.heap.size) 5, .free (w.heap.size) 6, .free (w.heap.size) 7, .free (w.heap.size) 8, calF b aRb cRb aDb cDb, calF a aRa cRa aDa cDa, factsVF] w') := Lib.hid (fun _ h => ⟨h.cell (w8.heap.size) 0 (.bool (a.o 0)) mh, h.cell (w8.heap.size) 1 (.bool (a.o 1)) (mt1 mh), h.cell (w8.heap.size) 2 (.bool (a.o 2)) (mt1 (mt1 mh)), h.cell (w8.heap.size) 3 (.bool (a.o 3)) (mt1 (mt1 (mt1 mh))), h.cell (w8.heap.size) 4 (.bool (a.o 4)) (mt1 (mt1 (mt1 (mt1 mh)))), h.cell (w8.heap.size) 5 (.bool (a.o 5)) (mt1 (mt1 (mt1 (mt1 (mt1 mh))))), h.cell (w8.heap.size) 6 (.bool (a.o 6)) (mt1 (mt1 (mt1 (mt1 (mt1 (mt1 mh)))))), h.cell (w8.heap.size) 7 (.slice aRz (a.un a).nr cRz) (mt1 (mt1 (mt1 (mt1 (mt1 (mt1 (mt1 mh))))))), h.cell (w8.heap.size) 8 (.slice aDz (a.un a).nd cDz) (mt8 mh), h.cell (w.heap.size) 0 (.bool (a.o 0)) (mt32 (mt32 (mt8 (mt1 mh)))), h.cell (w.heap.size) 1 (.bool (a.o 1)) (mt32 (mt32 (mt8 (mt1 (mt1 mh))))), h.cell (w.heap.size) 2 (.bool (a.o 2)) (mt32 (mt32 (mt8 (mt1 (mt1 (mt1 mh)))))), h.cell (w.heap.size) 3 (.bool (a.o 3)) (mt32 (mt32 (mt8 (mt1 (mt1 (mt1 (mt1 mh))))))), h.cell (w.heap.size) 4 (.bool (a.o 4)) (mt32 (mt32 (mt8 (mt1 (mt1 (mt1 (mt1 (mt1 mh)))))))), h.cell (w.heap.size) 5 (.bool (a.o 5)) (mt32 (mt32 (mt8 (mt1 (mt1 (mt1 (mt1 (mt1 (mt1 mh))))))))), h.cell (w.heap.size) 6 (.bool (a.o 6)) (mt32 (mt32 (mt8 (mt1 (mt1 (mt1 (mt1 (mt1 (mt1 (mt1 mh)))))))))), h.cell (w.heap.size) 7 (.slice aRa a.nr cRa) (mt32 (mt32 (mt8 (mt8 mh)))), h.cell (w.heap.size) 8 (.slice aDa a.nd cDa) (mt32 (mt32 (mt8 (mt8 (mt1 mh))))), h⟩)
  have KH : Hid (∀ w' : World, w'.cell? ⟨w8.heap.size, 0, none⟩ = some (.bool (a.o 0)) ∧ w'.cell? ⟨w8.heap.size, 1, none⟩ = some (.bool (a.o 1)) ∧ w'.cell? ⟨w8.heap.size, 2, none⟩ = some (.bool (a.o 2)) ∧ w'.cell? ⟨w8.heap.size, 3, none⟩ = some (.bool (a.o 3)) ∧ w'.cell? ⟨w8.heap.size, 4, none⟩ = some (.bool (a.o 4)) ∧ w'.cell? ⟨w8.heap.size, 5, none⟩ = some (.bool (a.o 5)) ∧ w'.cell? ⟨w8.heap.size, 6, none⟩ = some (.bool (a.o 6)) ∧ w'.cell? ⟨w8.heap.size, 7, none⟩ = some (.slice aRz (a.un a).nr cRz) ∧ w'.cell? ⟨w8.heap.size, 8, none⟩ = some (.slice aDz (a.un a).nd cDz) ∧ w'.cell? ⟨w.heap.size, 0, none⟩ = some (.bool (a.o 0)) ∧ w'.cell? ⟨w.heap.size, 1, none⟩ = some (.bool (a.o 1)) ∧ w'.cell? ⟨w.heap.size, 2, none⟩ = some (.bool (a.o 2)) ∧ w'.cell? ⟨w.heap.size, 3, none⟩ = some (.bool (a.o 3)) ∧ w'.cell? ⟨w.heap.size, 4, none⟩ = some (.bool (a.o 4)) ∧ w'.cell? ⟨w.heap.size, 5, none⟩ = some (.bool (a.o 5)) ∧ w'.cell? ⟨w.heap.size, 6, none⟩ = some (.bool (a.o 6)) ∧ w'.cell? ⟨w.heap.size, 7, none⟩ = some (.slice aRa a.nr cRa) ∧ w'.cell? ⟨w.heap.size, 8, none⟩ = some (.slice aDa a.nd cDa) ∧ Held w [.cell (w8.heap.size) 0 (.bool (a.o 0)), .cell (w8.heap.size) 1 (.bool (a.o 1)), .cell (w8.heap.size) 2 (.bool (a.o 2)), .cell (w8.heap.size) 3 (.bool (a.o 3)), .cell (w8.heap.size) 4 (.bool (a.o 4)), .cell (w8.heap.size) 5 (.bool (a.o 5)), .cell (w8.heap.size) 6 (.bool (a.o 6)), .cell (w8.heap.size) 7 (.slice aRz (a.un a).nr cRz), .cell (w8.heap.size) 8 (.slice aDz (a.un a).nd cDz), .free (w8.heap.size) 0, .free (w8.heap.size) 1, .free (w8.heap.size) 2, .free (w8.heap.size) 3, .free (w8.heap.size) 4, .free (w8.heap.size) 5, .free (w8.heap.size) 6, .free (w8.heap.size) 7, .free (w8.heap.size) 8, calF (a.un a) aRz cRz aDz cDz, .cell (w7.heap.size) 0 (.bool false), .cell (w7.heap.size) 1 (.bool false), .cell (w7.heap.size) 2 (.bool false), .cell (w7.heap.size) 3 (.bool false), .cell (w7.heap.size) 4 (.bool false), .cell (w7.heap.size) 5 (.bool false), .cell (w7.heap.size) 6 (.bool false), .cell (w7.heap.size) 7 (.slice none 0 0), .cell (w7.heap.size) 8 (.slice none 0 0), .free (w7.heap.size) 0, .free (w7.heap.size) 1, .free (w7.heap.size) 2, .free (w7.heap.size) 3, .free (w7.heap.size) 4, .free (w7.heap.size) 5, .free (w7.heap.size) 6, .free (w7.heap.size) 7, .free (w7.heap.size) 8, .cell (w6.heap.size) 0 (.bool false), .cell (w6.heap.size) 1 (.bool false), .cell (w6.heap.size) 2 (.bool false), .cell (w6.heap.size) 3 (.bool false), .cell (w6.heap.size) 4 (.bool false), .cell (w6.heap.size) 5 (.bool false), .cell (w6.heap.size) 6 (.bool false), .cell (w6.heap.size) 7 (.slice none 0 0), .cell (w6.heap.size) 8 (.slice none 0 0), .free (w6.heap.size) 0, .free (w6.heap.size) 1, .free (w6.heap.size) 2, .free (w6.heap.size) 3, .free (w6.heap.size) 4, .free (w6.heap.size) 5, .free (w6.heap.size) 6, .free (w6.heap.size) 7, .free (w6.heap.size) 8, .cell (w.heap.size + 1) 0 (.bool (b.o 0)), .cell (w.heap.size + 1) 1 (.bool (b.o 1)), .cell (w.heap.size + 1) 2 (.bool (b.o 2)), .cell (w.heap.size + 1) 3 (.bool (b.o 3)), .cell (w.heap.size + 1) 4 (.bool (b.o 4)), .cell (w.heap.size + 1) 5 (.bool (b.o 5)), .cell (w.heap.size + 1) 6 (.bool (b.o 6)), .cell (w.heap.size + 1) 7 (.slice aRb b.nr cRb), .cell (w.heap.size + 1) 8 (.slice aDb b.nd cDb), .free (w.heap.size + 1) 0, .free (w.heap.size + 1) 1, .free (w.heap.size + 1) 2, .free (w.heap.size + 1) 3, .free (w.heap.size + 1) 4, .free (w.heap.size + 1) 5, .free (w.heap.size + 1) 6, .free (w.heap.size + 1) 7, .free (w.heap.size + 1) 8, .cell (w.heap.size) 0 (.bool (a.o 0)), .cell (w.heap.size) 1 (.bool (a.o 1)), .cell (w.heap.size) 2 (.bool (a.o 2)), .cell (w.heap.size) 3 (.bool (a.o 3)), .cell (w.heap.size) 4 (.bool (a.o 4)), .cell (w.heap.size) 5 (.bool (a.o 5)), .cell (w.heap.size) 6 (.bool (a.o 6)), .cell (w.heap.size) 7 (.slice aRa a.nr cRa), .cell (w.heap.size) 8 (.slice aDa a.nd cDa), .free (w.heap.size) 0, .free (w.heap.size) 1, .free (w.heap.size) 2, .free (w.heap.size) 3, .free (w.heap.size) 4, .free (w.heap.size) 5, .free (w.heap.size) 6, .free (w.heap.size) 7, .free (w.heap.size) 8, calF b aRb cRb aDb cDb, calF a aRa cRa aDa cDa, factsVF] w' → Held w [.cell (w8.heap.size) 0 (.bool (a.o 0)), .cell (w8.heap.size) 1 (.bool (a.o 1)), .cell (w8.heap.size) 2 (.bool (a.o 2)), .cell (w8.heap.size) 3 (.bool (a.o 3)), .cell (w8.heap.size) 4 (.bool (a.o 4)), .cell (w8.heap.size) 5 (.bool (a.o 5)), .cell (w8.heap.size) 6 (.bool (a.o 6)), .cell (w8.heap.size) 7 (.slice aRz (a.un a).nr cRz), .cell (w8.heap.size) 8 (.slice aDz (a.un a).nd cDz), .free (w8.heap.size) 0, .free (w8.heap.size) 1, .free (w8.heap.size) 2, .free (w8.heap.size) 3, .free (w8.heap.size) 4, .free (w8.heap.size) 5, .free (w8.heap.size) 6, .free (w8.heap.size) 7, .free (w8.heap.size) 8, calF (a.un a) aRz cRz aDz cDz, .cell (w7.heap.size) 0 (.bool false), .cell (w7.heap.size) 1 (.bool false), .cell (w7.heap.size) 2 (.bool false), .cell (w7.heap.size) 3 (.bool false), .cell (w7.heap.size) 4 (.bool false), .cell (w7.heap.size) 5 (.bool false), .cell (w7.heap.size) 6 (.bool false), .cell (w7.heap.size) 7 (.slice none 0 0), .cell (w7.heap.size) 8 (.slice none 0 0), .free (w7.heap.size) 0, .free (w7.heap.size) 1, .free (w7.heap.size) 2, .free (w7.heap.size) 3, .free (w7.heap.size) 4, .free (w7.heap.size) 5, .free (w7.heap.size) 6, .free (w7.heap.size) 7, .free (w7.heap.size) 8, .cell (w6.heap.size) 0 (.bool false), .cell (w6.heap.size) 1 (.bool false), .cell (w6.heap.size) 2 (.bool false), .cell (w6.heap.size) 3 (.bool false), .cell (w6.heap.size) 4 (.bool false), .cell (w6.heap.size) 5 (.bool false), .cell (w6.heap.size) 6 (.bool false), .cell (w6.heap.size) 7 (.slice none 0 0), .cell (w6.heap.size) 8 (.slice none 0 0), .free (w6.heap.size) 0, .free (w6.heap.size) 1, .free (w6.heap.size) 2, .free (w6.heap.size) 3, .free (w6.heap.size) 4, .free (w6.heap.size) 5, .free (w6.heap.size) 6, .free (w6.heap.size) 7, .free (w6.heap.size) 8, .cell (w.heap.size + 1) 0 (.bool (b.o 0)), .cell (w.heap.size + 1) 1 (.bool (b.o 1)), .cell (w.heap.size + 1) 2 (.bool (b.o 2)), .cell (w.heap.size + 1) 3 (.bool (b.o 3)), .cell (w.heap.size + 1) 4 (.bool (b.o 4)), .cell (w.heap.size + 1) 5 (.bool (b.o 5)), .cell (w.heap.size + 1) 6 (.bool (b.o 6)), .cell (w.heap.size + 1) 7 (.slice aRb b.nr cRb), .cell (w.heap.size + 1) 8 (.slice aDb b.nd cDb), .free (w.heap.size + 1) 0, .free (w.heap.size + 1) 1, .free (w.heap.size + 1) 2, .free (w.heap.size + 1) 3, .free (w.heap.size + 1) 4, .free (w.heap.size + 1) 5, .free (w.heap.size + 1) 6, .free (w.heap.size + 1) 7, .free (w.heap.size + 1) 8, .cell (w.heap.size) 0 (.bool (a.o 0)), .cell (w.heap.size) 1 (.bool (a.o 1)), .cell (w.heap.size) 2 (.bool (a.o 2)), .cell (w.heap.size) 3 (.bool (a.o 3)), .cell (w.heap.size) 4 (.bool (a.o 4)), .cell (w.heap.size) 5 (.bool (a.o 5)), .cell (w.heap.size) 6 (.bool (a.o 6)), .cell (w.heap.size) 7 (.slice aRa a.nr cRa), .cell (w.heap.size) 8 (.slice aDa a.nd cDa), .free (w.heap.size) 0, .free (w.heap.size) 1, .free (w.heap.size) 2, .free (w.heap.size) 3, .free (w.heap.size) 4, .free (w.heap.size) 5, .free (w.heap.size) 6, .free (w.heap.size) 7, .free (w.heap.size) 8, calF b aRb cRb aDb cDb, calF a aRa cRa aDa cDa, factsVF] w') := Lib.hid (fun _ h => h.2.2.2.2.2.2.2.2.2.2.2.2.2.2.2.2.2.2)
  refine wp_region_held_drew (S := fun w' => w'.cell? ⟨w8.heap.size, 0, none⟩ = some (.bool (a.o 0)) ∧ w'.cell? ⟨w8.heap.size, 1, none⟩ = some (.bool (a.o 1)) ∧ w'.cell? ⟨w8.heap.size, 2, none⟩ = some (.bool (a.o 2)) ∧ w'.cell? ⟨w8.heap.size, 3, none⟩ = some (.bool (a.o 3)) ∧ w'.cell? ⟨w8.heap.size, 4, none⟩ = some (.bool (a.o 4)) ∧ w'.cell? ⟨w8.heap.size, 5, none⟩ = some (.bool (a.o 5)) ∧ w'.cell? ⟨w8.heap.size, 6, none⟩ = some (.bool (a.o 6)) ∧ w'.cell? ⟨w8.heap.size, 7, none⟩ = some (.slice aRz (a.un a).nr cRz) ∧ w'.cell? ⟨w8.heap.size, 8, none⟩ = some (.slice aDz (a.un a).nd cDz) ∧ w'.cell? ⟨w.heap.size, 0, none⟩ = some (.bool (a.o 0)) ∧ w'.cell? ⟨w.heap.size, 1, none⟩ = some (.bool (a.o 1)) ∧ w'.cell? ⟨w.heap.size, 2, none⟩ = some (.bool (a.o 2)) ∧ w'.cell? ⟨w.heap.size, 3, none⟩ = some (.bool (a.o 3)) ∧ w'.cell? ⟨w.heap.size, 4, none⟩ = some (.bool (a.o 4)) ∧ w'.cell? ⟨w.heap.size, 5, none⟩ = some (.bool (a.o 5)) ∧ w'.cell? ⟨w.heap.size, 6, none⟩ = some (.bool (a.o 6)) ∧ w'.cell? ⟨w.heap.size, 7, none⟩ = some (.slice aRa a.nr cRa) ∧ w'.cell? ⟨w.heap.size, 8, none⟩ = some (.slice aDa a.nd cDa) ∧ Held w [.cell (w8.heap.size) 0 (.bool (a.o 0)), .cell (w8.heap.size) 1 (.bool (a.o 1)), .cell (w8.heap.size) 2 (.bool (a.o 2)), .cell (w8.heap.size) 3 (.bool (a.o 3)), .cell (w8.heap.size) 4 (.bool (a.o 4)), .cell (w8.heap.size) 5 (.bool (a.o 5)), .cell (w8.heap.size) 6 (.bool (a.o 6)), .cell (w8.heap.size) 7 (.slice aRz (a.un a).nr cRz), .cell (w8.heap.size) 8 (.slice aDz (a.un a).nd cDz), .free (w8.heap.size) 0, .free (w8.heap.size) 1, .free (w8.heap.size) 2, .free (w8.heap.size) 3, .free (w8.heap.size) 4, .free (w8.heap.size) 5, .free (w8.heap.size) 6, .free (w8.heap.size) 7, .free (w8.heap.size) 8, calF (a.un a) aRz cRz aDz cDz, .cell (w7.heap.size) 0 (.bool false), .cell (w7.heap.size) 1 (.bool false), .cell (w7.heap.size) 2 (.bool false), .cell (w7.heap.size) 3 (.bool false), .cell (w7.heap.size) 4 (.bool false), .cell (w7.heap.size) 5 (.bool false), .cell (w7.heap.size) 6 (.bool false), .cell (w7.heap.size) 7 (.slice none 0 0), .cell (w7.heap.size) 8 (.slice none 0 0), .free (w7.heap.size) 0, .free (w7.heap.size) 1, .free (w7.heap.size) 2, .free (w7.heap.size) 3, .free (w7.heap.size) 4, .free (w7.heap.size) 5, .free (w7.heap.size) 6, .free (w7.heap.size) 7, .free (w7.heap.size) 8, .cell (w6.heap.size) 0 (.bool false), .cell (w6.heap.size) 1 (.bool false), .cell (w6.heap.size) 2 (.bool false), .cell (w6.heap.size) 3 (.bool false), .cell (w6.heap.size) 4 (.bool false), .cell (w6.heap.size) 5 (.bool false), .cell (w6.heap.size) 6 (.bool false), .cell (w6.heap.size) 7 (.slice none 0 0), .cell (w6.heap.size) 8 (.slice none 0 0), .free (w6.heap.size) 0, .free (w6.heap.size) 1, .free (w6.heap.size) 2, .free (w6.heap.size) 3, .free (w6.heap.size) 4, .free (w6.heap.size) 5, .free (w6.heap.size) 6, .free (w6.heap.size) 7, .free (w6.heap.size) 8, .cell (w.heap.size + 1) 0 (.bool (b.o 0)), .cell (w.heap.size + 1) 1 (.bool (b.o 1)), .cell (w.heap.size + 1) 2 (.bool (b.o 2)), .cell (w.heap.size + 1) 3 (.bool (b.o 3)), .cell (w.heap.size + 1) 4 (.bool (b.o 4)), .cell (w.heap.size + 1) 5 (.bool (b.o 5)), .cell (w.heap.size + 1) 6 (.bool (b.o 6)), .cell (w.heap.size + 1) 7 (.slice aRb b.nr cRb), .cell (w.heap.size + 1) 8 (.slice aDb b.nd cDb), .free (w.heap.size + 1) 0, .free (w.heap.size + 1) 1, .free (w.heap.size + 1) 2, .free (w.heap.size + 1) 3, .free (w.heap.size + 1) 4, .free (w.heap.size + 1) 5, .free (w.heap.size + 1) 6, .free (w.heap.size + 1) 7, .free (w.heap.size + 1) 8, .cell (w.heap.size) 0 (.bool (a.o 0)), .cell (w.heap.size) 1 (.bool (a.o 1)), .cell (w.heap.size) 2 (.bool (a.o 2)), .cell (w.heap.size) 3 (.bool (a.o 3)), .cell (w.heap.size) 4 (.bool (a.o 4)), .cell (w.heap.size) 5 (.bool (a.o 5)), .cell (w.heap.size) 6 (.bool (a.o 6)), .cell (w.heap.size) 7 (.slice aRa a.nr cRa), .cell (w.heap.size) 8 (.slice aDa a.nd cDa), .free (w.heap.size) 0, .free (w.heap.size) 1, .free (w.heap.size) 2, .free (w.heap.size) 3, .free (w.heap.size) 4, .free (w.heap.size) 5, .free (w.heap.size) 6, .free (w.heap.size) 7, .free (w.heap.size) 8, calF b aRb cRb aDb cDb, calF a aRa cRa aDa cDa, factsVF] w') (by kernel_rfl) (KS.out _ H.drew) (fun hHeld => ?_)
  clear H
  refine wpAnyH_take (i := 0) (oi := ⟨some 53, _, _, _, _, _⟩) (v := ?_) rfl (by kernel_rfl) (by kernel_rfl) (by kernel_rfl) (fun _ _ _ h => h) (Or.inl ⟨by rfl, ?_⟩) (by assumption) ?_
  rotate_left
  · intro w hSw; (try dsimp only at hSw); go_simp; try with_reducible rfl
  simp only [Act.put, List.setIfInBounds_toArray, List.set_cons_zero, List.set_cons_succ]
  refine wpAnyH_take (i := 1) (oi := ⟨some 54, _, _, _, _, _⟩) (v := ?_) rfl (by kernel_rfl) (by kernel_rfl) (by kernel_rfl) (fun _ _ _ h => h) (Or.inl ⟨by rfl, ?_⟩) (by assumption) ?_
  rotate_left
  · intro w hSw; (try dsimp only at hSw); go_simp; try with_reducible rfl
  simp only [Act.put, List.setIfInBounds_toArray, List.set_cons_zero, List.set_cons_succ]
  refine wpAnyH_take (i := 2) (oi := ⟨some 55, _, _, _, _, _⟩) (v := ?_) rfl (by kernel_rfl) (by kernel_rfl) (by kernel_rfl) (fun _ _ _ h => h) (Or.inl ⟨by rfl, ?_⟩) (by assumption) ?_
  rotate_left
  · intro w hSw; (try dsimp only at hSw); go_simp; try with_reducible rfl
  simp only [Act.put, List.setIfInBounds_toArray, List.set_cons_zero, List.set_cons_succ]
  refine wpAnyH_take (i := 3) (oi := ⟨some 56, _, _, _, _, _⟩) (v := ?_) rfl (by kernel_rfl) (by kernel_rfl) (by kernel_rfl) (fun _ _ _ h => h) (Or.inl ⟨by rfl, ?_⟩) (by assumption) ?_
  rotate_left
  · intro w hSw; (try dsimp only at hSw); go_simp; try with_reducible rfl
  simp only [Act.put, List.setIfInBounds_toArray, List.set_cons_zero, List.set_cons_succ]
  refine wpAnyH_take (i := 4) (oi := ⟨some 57, _, _, _, _, _⟩) (v := ?_) rfl (by kernel_rfl) (by kernel_rfl) (by kernel_rfl) (fun _ _ _ h => h) (Or.inl ⟨by rfl, ?_⟩) (by assumption) ?_
  rotate_left
  · intro w hSw; (try dsimp only at hSw); go_simp; try with_reducible rfl
  simp only [Act.put, List.setIfInBounds_toArray, List.set_cons_zero, List.set_cons_succ]
  refine wpAnyH_take (i := 5) (oi := ⟨some 58, _, _, _, _, _⟩) (v := ?_) rfl (by kernel_rfl) (by kernel_rfl) (by kernel_rfl) (fun _ _ _ h => h) (Or.inl ⟨by rfl, ?_⟩) (by assumption) ?_
  rotate_left
  · intro w hSw; (try dsimp only at hSw); go_simp; try with_reducible rfl
  simp only [Act.put, List.setIfInBounds_toArray, List.set_cons_zero, List.set_cons_succ]
  refine wpAnyH_take (i := 6) (oi := ⟨some 59, _, _, _, _, _⟩) (v := ?_) rfl (by kernel_rfl) (by kernel_rfl) (by kernel_rfl) (fun _ _ _ h => h) (Or.inl ⟨by rfl, ?_⟩) (by assumption) ?_
  rotate_left
  · intro w hSw; (try dsimp only at hSw); go_simp; try with_reducible rfl
  simp only [Act.put, List.setIfInBounds_toArray, List.set_cons_zero, List.set_cons_succ]
  refine wpAnyH_take (i := 7) (oi := ⟨some 60, _, _, _, _, _⟩) (v := ?_) rfl (by kernel_rfl) (by kernel_rfl) (by kernel_rfl) (fun _ _ _ h => h) (Or.inl ⟨by rfl, ?_⟩) (by assumption) ?_
  rotate_left
  · intro w hSw; (try dsimp only at hSw); go_simp; try with_reducible rfl
  simp only [Act.put, List.setIfInBounds_toArray, List.set_cons_zero, List.set_cons_succ]
  refine wpAnyH_take (i := 8) (oi := ⟨some 61, _, _, _, _, _⟩) (v := ?_) rfl (by kernel_rfl) (by kernel_rfl) (by kernel_rfl) (fun _ _ _ h => h) (Or.inl ⟨by rfl, ?_⟩) (by assumption) ?_
  rotate_left
  · intro w hSw; (try dsimp only at hSw); go_simp; try with_reducible rfl
  simp only [Act.put, List.setIfInBounds_toArray, List.set_cons_zero, List.set_cons_succ]
  refine wpAnyH_take (i := 9) (oi := ⟨some 62, _, _, _, _, _⟩) (v := ?_) rfl (by kernel_rfl) (by kernel_rfl) (by kernel_rfl) (fun _ _ _ h => h) (Or.inl ⟨by rfl, ?_⟩) (by assumption) ?_
  rotate_left
  · intro w hSw; (try dsimp only at hSw); go_simp; try with_reducible rfl
  simp only [Act.put, List.setIfInBounds_toArray, List.set_cons_zero, List.set_cons_succ]
  refine wpAnyH_take (i := 11) (oi := ⟨some 64, _, _, _, _, _⟩) (v := ?_) rfl (by kernel_rfl) (by kernel_rfl) (by kernel_rfl) (fun _ _ _ h => h) (Or.inl ⟨by rfl, ?_⟩) (by assumption) ?_
  rotate_left
  · intro w hSw; (try dsimp only at hSw); go_simp; try with_reducible rfl
  simp only [Act.put, List.setIfInBounds_toArray, List.set_cons_zero, List.set_cons_succ]
  refine wpAnyH_take (i := 12) (oi := ⟨some 65, _, _, _, _, _⟩) (v := ?_) rfl (by kernel_rfl) (by kernel_rfl) (by kernel_rfl) (fun _ _ _ h => h) (Or.inl ⟨by rfl, ?_⟩) (by assumption) ?_
  rotate_left
  · intro w hSw; (try dsimp only at hSw); go_simp; try with_reducible rfl
  simp only [Act.put, List.setIfInBounds_toArray, List.set_cons_zero, List.set_cons_succ]
  refine wpAnyH_ready (rs := [10]) (by kernel_rfl) (by simp) ?_
  refine AllReadyH.cons (o := ⟨some 63, _, _, _, _, _⟩) rfl (fun KK hK => ?_) AllReadyH.nil
  go_simp
  have H := KH.out _ hHeld
  (with_reducible refine (qiz K a aRz cRz aDz cDz n true _ (H.factsV (mt32 (mt32 (mt8 (mt8 (mt8 (mt1 (mt1 (mt1 (mt1 (mt1 mh))))))))))) MZ.out (H.cal (mt8 (mt8 (mt1 (mt1 mh))))) ⟨fun _ => HP.out, fun _ => rfl⟩).mono ?_)
  rintro e w' ⟨rfl, hb⟩
  go_wp2_with fail
  refine hK.out _ _ ?_ (fun hNew => ?_)
  · exact KS.out _ (Held.below H hb)
  clear hK KK hHeld H hb
  have hHeld := hNew
  clear hNew
  try simp only [Act.put, List.setIfInBounds_toArray, List.set_cons_zero, List.set_cons_succ]
  refine wpAnyH_ready (rs := [13]) (by kernel_rfl) (by simp) ?_
  refine AllReadyH.cons (o := ⟨some 66, _, _, _, _, _⟩) rfl (fun KK hK => ?_) AllReadyH.nil
  go_simp
  have H := KH.out _ hHeld
  (with_reducible refine (K.is a aRa cRa aDa cDa n true _ (H.factsV (mt32 (mt32 (mt8 (mt8 (mt8 (mt1 (mt1 (mt1 (mt1 (mt1 mh))))))))))) MA.out (H.cal (mt32 (mt32 (mt8 (mt8 (mt8 (mt1 (mt1 (mt1 (mt1 mh)))))))))) ⟨fun _ => HP.out, fun _ => rfl⟩).mono ?_)
  rintro e w' ⟨rfl, hb⟩
  go_wp2_with fail
  refine hK.out _ _ ?_ (fun hNew => ?_)
  · exact KS.out _ (Held.below H hb)
  clear hK KK hHeld H hb
  have hHeld := hNew
  clear hNew
  try simp only [Act.put, List.setIfInBounds_toArray, List.set_cons_zero, List.set_cons_succ]
  refine wpAnyH_take (i := 14) (oi := ⟨some 67, _, _, _, _, _⟩) (v := ?_) rfl (by kernel_rfl) (by kernel_rfl) (by kernel_rfl) (fun _ _ _ h => h) (Or.inl ⟨by rfl, ?_⟩) (by assumption) ?_
  rotate_left
  · intro w hSw; (try dsimp only at hSw); go_simp; try with_reducible rfl
  simp only [Act.put, List.setIfInBounds_toArray, List.set_cons_zero, List.set_cons_succ]
  refine wpAnyH_take (i := 15) (oi := ⟨some 68, _, _, _, _, _⟩) (v := ?_) rfl (by kernel_rfl) (by kernel_rfl) (by kernel_rfl) (fun _ _ _ h => h) (Or.inl ⟨by rfl, ?_⟩) (by assumption) ?_
  rotate_left
  · intro w hSw; (try dsimp only at hSw); go_simp; try with_reducible rfl
  simp only [Act.put, List.setIfInBounds_toArray, List.set_cons_zero, List.set_cons_succ]
  refine wpAnyH_done (by kernel_rfl) ?_ _
  have H := KH.out _ hHeld
  clear KS KH hHeld
  go_wp2_with fail
  go_ret
  exact ⟨rfl, H.old⟩

set_option maxHeartbeats 8000000 in
set_option maxRecDepth 100000 in
theorem caboth_nf (K : CalWay) (a : Ca) (aRa : Option Addr) (cRa : Nat) (aDa : Option Addr) (cDa : Nat) (b : Ca) (aRb : Option Addr) (cRb : Nat) (aDb : Option Addr) (cDb : Nat) (n : Int) (w : World) (hL : FactsV w) (hCa : CalAt w a aRa cRa aDa cDa) (hCb : CalAt w b aRb cRb aDb cDb) (fa : decide (a.nr ≤ 12 ∧ a.nd ≤ 60) = true) (fb : decide (b.nr ≤ 12 ∧ b.nd ≤ 60) = true) (za : a.Small) (zb : b.Small) (ea : a.Few) (eb : b.Few) (ma : a.May) (mb : b.May) (mz : (a.un a).May) (hp : ¬ a.Is n) (mx : ¬ (a.un b).May) (my : ¬ (b.un a).May) :
    Calls Tryd.prog 5 #[.agg #[.bool (a.o 0), .bool (a.o 1), .bool (a.o 2), .bool (a.o 3), .bool (a.o 4), .bool (a.o 5), .bool (a.o 6), .slice aRa a.nr cRa, .slice aDa a.nd cDa], .agg #[.bool (b.o 0), .bool (b.o 1), .bool (b.o 2), .bool (b.o 3), .bool (b.o 4), .bool (b.o 5), .bool (b.o 6), .slice aRb b.nr cRb, .slice aDb b.nd cDb], .int .i64 n] w fun e w' => e = .returned (.bool true) ∧ Below w.heap.size w w' := by
  have H := (((Held.start w).add (f := factsVF) hL).add (f := calF a aRa cRa aDa cDa) hCa).add (f := calF b aRb cRb aDb cDb) hCb
  clear hL hCa hCb
  have HFA := Lib.hid fa
  have HFB := Lib.hid fb
  have HZA := Lib.hid za
  have HZB := Lib.hid zb
  have EA := Lib.hid ea
  have EB := Lib.hid eb
  have MA := Lib.hid ma
  have MB := Lib.hid mb
  have MZ := Lib.hid mz
  have HP := Lib.hid hp
  have MX := Lib.hid mx
  have MY := Lib.hid my
  clear fa fb za zb ea eb ma mb mz hp mx my
  go_enter Tryd.func5, Tryd.ntmps5
  go_wp2_with fail
  replace H := ((H.box_9 (w.heap.size) (.bool (a.o 0)) (.bool (a.o 1)) (.bool (a.o 2)) (.bool (a.o 3)) (.bool (a.o 4)) (.bool (a.o 5)) (.bool (a.o 6)) (.slice aRa a.nr cRa) (.slice aDa a.nd cDa) 26 rfl).box_9 (w.heap.size + 1) (.bool (b.o 0)) (.bool (b.o 1)) (.bool (b.o 2)) (.bool (b.o 3)) (.bool (b.o 4)) (.bool (b.o 5)) (.bool (b.o 6)) (.slice aRb b.nr cRb) (.slice aDb b.nd cDb) 26 (by simp))
  (with_reducible refine (cashown_any K _ (H.factsV (mt32 (mt1 (mt1 (mt1 (mt1 (mt1 (mt1 mh))))))))).mono ?_)
  rintro e w1 ⟨rfl, hb⟩
  replace H := H.below hb
  clear hb
  have ca0 := H.cell (w.heap.size) 0 (.bool (a.o 0)) (mt8 (mt8 (mt1 (mt1 mh))))
  have ca1 := H.cell (w.heap.size) 1 (.bool (a.o 1)) (mt8 (mt8 (mt1 (mt1 (mt1 mh)))))
  have ca2 := H.cell (w.heap.size) 2 (.bool (a.o 2)) (mt8 (mt8 (mt1 (mt1 (mt1 (mt1 mh))))))
  have ca3 := H.cell (w.heap.size) 3 (.bool (a.o 3)) (mt8 (mt8 (mt1 (mt1 (mt1 (mt1 (mt1 mh)))))))
  have ca4 := H.cell (w.heap.size) 4 (.bool (a.o 4)) (mt8 (mt8 (mt1 (mt1 (mt1 (mt1 (mt1 (mt1 mh))))))))
  have ca5 := H.cell (w.heap.size) 5 (.bool (a.o 5)) (mt8 (mt8 (mt1 (mt1 (mt1 (mt1 (mt1 (mt1 (mt1 mh)))))))))
  have ca6 := H.cell (w.heap.size) 6 (.bool (a.o 6)) (mt8 (mt8 (mt8 mh)))
  have ca7 := H.cell (w.heap.size) 7 (.slice aRa a.nr cRa) (mt8 (mt8 (mt8 (mt1 mh))))
  have ca8 := H.cell (w.heap.size) 8 (.slice aDa a.nd cDa) (mt8 (mt8 (mt8 (mt1 (mt1 mh)))))
  have la := H.lt (w.heap.size) 0 (.bool (a.o 0)) (mt8 (mt8 (mt1 (mt1 mh))))
  go_wp2_with fail
  clear ca0 ca1 ca2 ca3 ca4 ca5 ca6 ca7 ca8 la
  (with_reducible refine (few_any a aRa cRa aDa cDa true _ HFA.out).mono ?_)
  rintro e w2 ⟨rfl, hb⟩
  replace H := H.below hb
  clear hb
  have cb0 := H.cell (w.heap.size + 1) 0 (.bool (b.o 0)) mh
  have cb1 := H.cell (w.heap.size + 1) 1 (.bool (b.o 1)) (mt1 mh)
  have cb2 := H.cell (w.heap.size + 1) 2 (.bool (b.o 2)) (mt1 (mt1 mh))
  have cb3 := H.cell (w.heap.size + 1) 3 (.bool (b.o 3)) (mt1 (mt1 (mt1 mh)))
  have cb4 := H.cell (w.heap.size + 1) 4 (.bool (b.o 4)) (mt1 (mt1 (mt1 (mt1 mh))))
  have cb5 := H.cell (w.heap.size + 1) 5 (.bool (b.o 5)) (mt1 (mt1 (mt1 (mt1 (mt1 mh)))))
  have cb6 := H.cell (w.heap.size + 1) 6 (.bool (b.o 6)) (mt1 (mt1 (mt1 (mt1 (mt1 (mt1 mh))))))
  have cb7 := H.cell (w.heap.size + 1) 7 (.slice aRb b.nr cRb) (mt1 (mt1 (mt1 (mt1 (mt1 (mt1 (mt1 mh)))))))
  have cb8 := H.cell (w.heap.size + 1) 8 (.slice aDb b.nd cDb) (mt8 mh)
  have lb := H.lt (w.heap.size + 1) 0 (.bool (b.o 0)) mh
  go_wp2_with fail
  clear cb0 cb1 cb2 cb3 cb4 cb5 cb6 cb7 cb8 lb
  (with_reducible refine (few_any b aRb cRb aDb cDb true _ HFB.out).mono ?_)
  rintro e w3 ⟨rfl, hb⟩
  replace H := H.below hb
  clear hb
  have ca0 := H.cell (w.heap.size) 0 (.bool (a.o 0)) (mt8 (mt8 (mt1 (mt1 mh))))
  have ca1 := H.cell (w.heap.size) 1 (.bool (a.o 1)) (mt8 (mt8 (mt1 (mt1 (mt1 mh)))))
  have ca2 := H.cell (w.heap.size) 2 (.bool (a.o 2)) (mt8 (mt8 (mt1 (mt1 (mt1 (mt1 mh))))))
  have ca3 := H.cell (w.heap.size) 3 (.bool (a.o 3)) (mt8 (mt8 (mt1 (mt1 (mt1 (mt1 (mt1 mh)))))))
  have ca4 := H.cell (w.heap.size) 4 (.bool (a.o 4)) (mt8 (mt8 (mt1 (mt1 (mt1 (mt1 (mt1 (mt1 mh))))))))
  have ca5 := H.cell (w.heap.size) 5 (.bool (a.o 5)) (mt8 (mt8 (mt1 (mt1 (mt1 (mt1 (mt1 (mt1 (mt1 mh)))))))))
  have ca6 := H.cell (w.heap.size) 6 (.bool (a.o 6)) (mt8 (mt8 (mt8 mh)))
  have ca7 := H.cell (w.heap.size) 7 (.slice aRa a.nr cRa) (mt8 (mt8 (mt8 (mt1 mh))))
  have ca8 := H.cell (w.heap.size) 8 (.slice aDa a.nd cDa) (mt8 (mt8 (mt8 (mt1 (mt1 mh)))))
  have la := H.lt (w.heap.size) 0 (.bool (a.o 0)) (mt8 (mt8 (mt1 (mt1 mh))))
  go_wp2_with fail
  clear ca0 ca1 ca2 ca3 ca4 ca5 ca6 ca7 ca8 la
  (with_reducible refine (rcmay_any a aRa cRa aDa cDa true _ HZA.out (H.cal (mt32 (mt1 (mt1 (mt1 (mt1 (mt1 mh))))))) ⟨fun _ => MA.out, fun _ => rfl⟩).mono ?_)
  rintro e w4 ⟨rfl, hb⟩
  replace H := H.below hb
  clear hb
  have cb0 := H.cell (w.heap.size + 1) 0 (.bool (b.o 0)) mh
  have cb1 := H.cell (w.heap.size + 1) 1 (.bool (b.o 1)) (mt1 mh)
  have cb2 := H.cell (w.heap.size + 1) 2 (.bool (b.o 2)) (mt1 (mt1 mh))
  have cb3 := H.cell (w.heap.size + 1) 3 (.bool (b.o 3)) (mt1 (mt1 (mt1 mh)))
  have cb4 := H.cell (w.heap.size + 1) 4 (.bool (b.o 4)) (mt1 (mt1 (mt1 (mt1 mh))))
  have cb5 := H.cell (w.heap.size + 1) 5 (.bool (b.o 5)) (mt1 (mt1 (mt1 (mt1 (mt1 mh)))))
  have cb6 := H.cell (w.heap.size + 1) 6 (.bool (b.o 6)) (mt1 (mt1 (mt1 (mt1 (mt1 (mt1 mh))))))
  have cb7 := H.cell (w.heap.size + 1) 7 (.slice aRb b.nr cRb) (mt1 (mt1 (mt1 (mt1 (mt1 (mt1 (mt1 mh)))))))
  have cb8 := H.cell (w.heap.size + 1) 8 (.slice aDb b.nd cDb) (mt8 mh)
  have lb := H.lt (w.heap.size + 1) 0 (.bool (b.o 0)) mh
  go_wp2_with fail
  clear cb0 cb1 cb2 cb3 cb4 cb5 cb6 cb7 cb8 lb
  (with_reducible refine (rcmay_any b aRb cRb aDb cDb true _ HZB.out (H.cal (mt32 (mt1 (mt1 (mt1 (mt1 mh)))))) ⟨fun _ => MB.out, fun _ => rfl⟩).mono ?_)
  rintro e w5 ⟨rfl, hb⟩
  replace H := H.below hb
  clear hb
  have ca0 := H.cell (w.heap.size) 0 (.bool (a.o 0)) (mt8 (mt8 (mt1 (mt1 mh))))
  have ca1 := H.cell (w.heap.size) 1 (.bool (a.o 1)) (mt8 (mt8 (mt1 (mt1 (mt1 mh)))))
  have ca2 := H.cell (w.heap.size) 2 (.bool (a.o 2)) (mt8 (mt8 (mt1 (mt1 (mt1 (mt1 mh))))))
  have ca3 := H.cell (w.heap.size) 3 (.bool (a.o 3)) (mt8 (mt8 (mt1 (mt1 (mt1 (mt1 (mt1 mh)))))))
  have ca4 := H.cell (w.heap.size) 4 (.bool (a.o 4)) (mt8 (mt8 (mt1 (mt1 (mt1 (mt1 (mt1 (mt1 mh))))))))
  have ca5 := H.cell (w.heap.size) 5 (.bool (a.o 5)) (mt8 (mt8 (mt1 (mt1 (mt1 (mt1 (mt1 (mt1 (mt1 mh)))))))))
  have ca6 := H.cell (w.heap.size) 6 (.bool (a.o 6)) (mt8 (mt8 (mt8 mh)))
  have ca7 := H.cell (w.heap.size) 7 (.slice aRa a.nr cRa) (mt8 (mt8 (mt8 (mt1 mh))))
  have ca8 := H.cell (w.heap.size) 8 (.slice aDa a.nd cDa) (mt8 (mt8 (mt8 (mt1 (mt1 mh)))))
  have la := H.lt (w.heap.size) 0 (.bool (a.o 0)) (mt8 (mt8 (mt1 (mt1 mh))))
  have cb0 := H.cell (w.heap.size + 1) 0 (.bool (b.o 0)) mh
  have cb1 := H.cell (w.heap.size + 1) 1 (.bool (b.o 1)) (mt1 mh)
  have cb2 := H.cell (w.heap.size + 1) 2 (.bool (b.o 2)) (mt1 (mt1 mh))
  have cb3 := H.cell (w.heap.size + 1) 3 (.bool (b.o 3)) (mt1 (mt1 (mt1 mh)))
  have cb4 := H.cell (w.heap.size + 1) 4 (.bool (b.o 4)) (mt1 (mt1 (mt1 (mt1 mh))))
  have cb5 := H.cell (w.heap.size + 1) 5 (.bool (b.o 5)) (mt1 (mt1 (mt1 (mt1 (mt1 mh)))))
  have cb6 := H.cell (w.heap.size + 1) 6 (.bool (b.o 6)) (mt1 (mt1 (mt1 (mt1 (mt1 (mt1 mh))))))
  have cb7 := H.cell (w.heap.size + 1) 7 (.slice aRb b.nr cRb) (mt1 (mt1 (mt1 (mt1 (mt1 (mt1 (mt1 mh)))))))
  have cb8 := H.cell (w.heap.size + 1) 8 (.slice aDb b.nd cDb) (mt8 mh)
  have lb := H.lt (w.heap.size + 1) 0 (.bool (b.o 0)) mh
  go_wp2_with fail
  clear ca0 ca1 ca2 ca3 ca4 ca5 ca6 ca7 ca8 la cb0 cb1 cb2 cb3 cb4 cb5 cb6 cb7 cb8 lb
  (with_reducible refine (qun K a aRa cRa aDa cDa b aRb cRb aDb cDb _ (H.factsV (mt32 (mt1 (mt1 (mt1 (mt1 (mt1 (mt1 mh)))))))) EA.out EB.out MA.out MB.out (H.cal (mt32 (mt1 (mt1 (mt1 (mt1 (mt1 mh))))))) (H.cal (mt32 (mt1 (mt1 (mt1 (mt1 mh)))))) MX.out).mono ?_)
  rintro e w6 ⟨rfl, hb⟩
  replace H := H.below hb
  clear hb
  have ca0 := H.cell (w.heap.size) 0 (.bool (a.o 0)) (mt8 (mt8 (mt1 (mt1 mh))))
  have ca1 := H.cell (w.heap.size) 1 (.bool (a.o 1)) (mt8 (mt8 (mt1 (mt1 (mt1 mh)))))
  have ca2 := H.cell (w.heap.size) 2 (.bool (a.o 2)) (mt8 (mt8 (mt1 (mt1 (mt1 (mt1 mh))))))
  have ca3 := H.cell (w.heap.size) 3 (.bool (a.o 3)) (mt8 (mt8 (mt1 (mt1 (mt1 (mt1 (mt1 mh)))))))
  have ca4 := H.cell (w.heap.size) 4 (.bool (a.o 4)) (mt8 (mt8 (mt1 (mt1 (mt1 (mt1 (mt1 (mt1 mh))))))))
  have ca5 := H.cell (w.heap.size) 5 (.bool (a.o 5)) (mt8 (mt8 (mt1 (mt1 (mt1 (mt1 (mt1 (mt1 (mt1 mh)))))))))
  have ca6 := H.cell (w.heap.size) 6 (.bool (a.o 6)) (mt8 (mt8 (mt8 mh)))
  have ca7 := H.cell (w.heap.size) 7 (.slice aRa a.nr cRa) (mt8 (mt8 (mt8 (mt1 mh))))
  have ca8 := H.cell (w.heap.size) 8 (.slice aDa a.nd cDa) (mt8 (mt8 (mt8 (mt1 (mt1 mh)))))
  have la := H.lt (w.heap.size) 0 (.bool (a.o 0)) (mt8 (mt8 (mt1 (mt1 mh))))
  have cb0 := H.cell (w.heap.size + 1) 0 (.bool (b.o 0)) mh
  have cb1 := H.cell (w.heap.size + 1) 1 (.bool (b.o 1)) (mt1 mh)
  have cb2 := H.cell (w.heap.size + 1) 2 (.bool (b.o 2)) (mt1 (mt1 mh))
  have cb3 := H.cell (w.heap.size + 1) 3 (.bool (b.o 3)) (mt1 (mt1 (mt1 mh)))
  have cb4 := H.cell (w.heap.size + 1) 4 (.bool (b.o 4)) (mt1 (mt1 (mt1 (mt1 mh))))
  have cb5 := H.cell (w.heap.size + 1) 5 (.bool (b.o 5)) (mt1 (mt1 (mt1 (mt1 (mt1 mh)))))
  have cb6 := H.cell (w.heap.size + 1) 6 (.bool (b.o 6)) (mt1 (mt1 (mt1 (mt1 (mt1 (mt1 mh))))))
  have cb7 := H.cell (w.heap.size + 1) 7 (.slice aRb b.nr cRb) (mt1 (mt1 (mt1 (mt1 (mt1 (mt1 (mt1 mh)))))))
  have cb8 := H.cell (w.heap.size + 1) 8 (.slice aDb b.nd cDb) (mt8 mh)
  have lb := H.lt (w.heap.size + 1) 0 (.bool (b.o 0)) mh
  go_wp2_with fail
  clear ca0 ca1 ca2 ca3 ca4 ca5 ca6 ca7 ca8 la cb0 cb1 cb2 cb3 cb4 cb5 cb6 cb7 cb8 lb
  replace H := (H.box_9 (w6.heap.size) (.bool false) (.bool false) (.bool false) (.bool false) (.bool false) (.bool false) (.bool false) (.slice none 0 0) (.slice none 0 0) 26 rfl)
  (with_reducible refine (qun K b aRb cRb aDb cDb a aRa cRa aDa cDa _ (H.factsV (mt32 (mt8 (mt8 (mt8 mh))))) EB.out EA.out MB.out MA.out (H.cal (mt32 (mt8 (mt8 (mt1 (mt1 (mt1 (mt1 (mt1 (mt1 mh)))))))))) (H.cal (mt32 (mt8 (mt8 (mt1 (mt1 (mt1 (mt1 (mt1 (mt1 (mt1 mh))))))))))) MY.out).mono ?_)
  rintro e w7 ⟨rfl, hb⟩
  replace H := H.below hb
  clear hb
  have ca0 := H.cell (w.heap.size) 0 (.bool (a.o 0)) (mt32 (mt1 (mt1 (mt1 (mt1 mh)))))
  have ca1 := H.cell (w.heap.size) 1 (.bool (a.o 1)) (mt32 (mt1 (mt1 (mt1 (mt1 (mt1 mh))))))
  have ca2 := H.cell (w.heap.size) 2 (.bool (a.o 2)) (mt32 (mt1 (mt1 (mt1 (mt1 (mt1 (mt1 mh)))))))
  have ca3 := H.cell (w.heap.size) 3 (.bool (a.o 3)) (mt32 (mt1 (mt1 (mt1 (mt1 (mt1 (mt1 (mt1 mh))))))))
  have ca4 := H.cell (w.heap.size) 4 (.bool (a.o 4)) (mt32 (mt8 mh))
  have ca5 := H.cell (w.heap.size) 5 (.bool (a.o 5)) (mt32 (mt8 (mt1 mh)))
  have ca6 := H.cell (w.heap.size) 6 (.bool (a.o 6)) (mt32 (mt8 (mt1 (mt1 mh))))
  have ca7 := H.cell (w.heap.size) 7 (.slice aRa a.nr cRa) (mt32 (mt8 (mt1 (mt1 (mt1 mh)))))
  have ca8 := H.cell (w.heap.size) 8 (.slice aDa a.nd cDa) (mt32 (mt8 (mt1 (mt1 (mt1 (mt1 mh))))))
  have la := H.lt (w.heap.size) 0 (.bool (a.o 0)) (mt32 (mt1 (mt1 (mt1 (mt1 mh)))))
  go_wp2_with fail
  clear ca0 ca1 ca2 ca3 ca4 ca5 ca6 ca7 ca8 la
  replace H := (H.box_9 (w7.heap.size) (.bool false) (.bool false) (.bool false) (.bool false) (.bool false) (.bool false) (.bool false) (.slice none 0 0) (.slice none 0 0) 26 rfl)
  (with_reducible refine (quz K a aRa cRa aDa cDa _ (H.factsV (mt32 (mt32 (mt8 (mt1 (mt1 mh)))))) EA.out MA.out (H.cal (mt32 (mt32 (mt8 (mt1 mh))))) MZ.out).mono ?_)
  rintro e w8 ⟨aRz, cRz, aDz, cDz, rfl, hC, hb⟩
  replace H := H.below hb
  clear hb
  replace H := H.add (f := calF (a.un a) aRz cRz aDz cDz) hC
  clear hC
  have ca0 := H.cell (w.heap.size) 0 (.bool (a.o 0)) (mt32 (mt8 (mt8 (mt1 (mt1 (mt1 (mt1 (mt1 (mt1 (mt1 mh))))))))))
  have ca1 := H.cell (w.heap.size) 1 (.bool (a.o 1)) (mt32 (mt8 (mt8 (mt8 mh))))
  have ca2 := H.cell (w.heap.size) 2 (.bool (a.o 2)) (mt32 (mt8 (mt8 (mt8 (mt1 mh)))))
  have ca3 := H.cell (w.heap.size) 3 (.bool (a.o 3)) (mt32 (mt8 (mt8 (mt8 (mt1 (mt1 mh))))))
  have ca4 := H.cell (w.heap.size) 4 (.bool (a.o 4)) (mt32 (mt8 (mt8 (mt8 (mt1 (mt1 (mt1 mh)))))))
  have ca5 := H.cell (w.heap.size) 5 (.bool (a.o 5)) (mt32 (mt8 (mt8 (mt8 (mt1 (mt1 (mt1 (mt1 mh))))))))
  have ca6 := H.cell (w.heap.size) 6 (.bool (a.o 6)) (mt32 (mt8 (mt8 (mt8 (mt1 (mt1 (mt1 (mt1 (mt1 mh)))))))))
  have ca7 := H.cell (w.heap.size) 7 (.slice aRa a.nr cRa) (mt32 (mt8 (mt8 (mt8 (mt1 (mt1 (mt1 (mt1 (mt1 (mt1 mh))))))))))
  have ca8 := H.cell (w.heap.size) 8 (.slice aDa a.nd cDa) (mt32 (mt8 (mt8 (mt8 (mt1 (mt1 (mt1 (mt1 (mt1 (mt1 (mt1 mh)))))))))))
  have la := H.lt (w.heap.size) 0 (.bool (a.o 0)) (mt32 (mt8 (mt8 (mt1 (mt1 (mt1 (mt1 (mt1 (mt1 (mt1 mh))))))))))
  go_wp2_with fail
  clear ca0 ca1 ca2 ca3 ca4 ca5 ca6 ca7 ca8 la
  replace H := (H.box_9 (w8.heap.size) (.bool (a.o 0)) (.bool (a.o 1)) (.bool (a.o 2)) (.bool (a.o 3)) (.bool (a.o 4)) (.bool (a.o 5)) (.bool (a.o 6)) (.slice aRz (a.un a).nr cRz) (.slice aDz (a.un a).nd cDz) 26 rfl)
  have KS : Hid (∀ w' : World, Held w [.cell (w8.heap.size) 0 (.bool (a.o 0)), .cell (w8.heap.size) 1 (.bool (a.o 1)), .cell (w8.heap.size) 2 (.bool (a.o 2)), .cell (w8.heap.size) 3 (.bool (a.o 3)), .cell (w8.heap.size) 4 (.bool (a.o 4)), .cell (w8.heap.size) 5 (.bool (a.o 5)), .cell (w8.heap.size) 6 (.bool (a.o 6)), .cell (w8.heap.size) 7 (.slice aRz (a.un a).nr cRz), .cell (w8.heap.size) 8 (.slice aDz (a.un a).nd cDz), .free (w8.heap.size) 0, .free (w8.heap.size) 1, .free (w8.heap.size) 2, .free (w8.heap.size) 3, .free (w8.heap.size) 4, .free (w8.heap.size) 5, .free (w8.heap.size) 6, .free (w8.heap.size) 7, .free (w8.heap.size) 8, calF (a.un a) aRz cRz aDz cDz, .cell (w7.heap.size) 0 (.bool false), .cell (w7.heap.size) 1 (.bool false), .cell (w7.heap.size) 2 (.bool false), .cell (w7.heap.size) 3 (.bool false), .cell (w7.heap.size) 4 (.bool false), .cell (w7.heap.size) 5 (.bool false), .cell (w7.heap.size) 6 (.bool false), .cell (w7.heap.size) 7 (.slice none 0 0), .cell (w7.heap.size) 8 (.slice none 0 0), .free (w7.heap.size) 0, .free (w7.heap.size) 1, .free (w7.heap.size) 2, .free (w7.heap.size) 3, .free (w7.heap.size) 4, .free (w7.heap.size) 5, .free (w7.heap.size) 6, .free (w7.heap.size) 7, .free (w7.heap.size) 8, .cell (w6.heap.size) 0 (.bool false), .cell (w6.heap.size) 1 (.bool false), .cell (w6.heap.size) 2 (.bool false), .cell (w6.heap.size) 3 (.bool false), .cell (w6.heap.size) 4 (.bool false), .cell (w6.heap.size) 5 (.bool false), .cell (w6.heap.size) 6 (.bool false), .cell (w6.heap.size) 7 (.slice none 0 0), .cell (w6.heap.size) 8 (.slice none 0 0), .free (w6.heap.size) 0, .free (w6.heap.size) 1, .free (w6.heap.size) 2, .free (w6.heap.size) 3, .free (w6.heap.size) 4, .free (w6.heap.size) 5, .free (w6.heap.size) 6, .free (w6.heap.size) 7, .free (w6.heap.size) 8, .cell (w.heap.size + 1) 0 (.bool (b.o 0)), .cell (w.heap.size + 1) 1 (.bool (b.o 1)), .cell (w.heap.size + 1) 2 (.bool (b.o 2)), .cell (w.heap.size + 1) 3 (.bool (b.o 3)), .cell (w.heap.size + 1) 4 (.bool (b.o 4)), .cell (w.heap.size + 1) 5 (.bool (b.o 5)), .cell (w.heap.size + 1) 6 (.bool (b.o 6)), .cell (w.heap.size + 1) 7 (.slice aRb b.nr cRb), .cell (w.heap.size + 1) 8 (.slice aDb b.nd cDb), .free (w.heap.size + 1) 0, .free (w.heap.size + 1) 1, .free (w.heap.size + 1) 2, .free (w.heap.size + 1) 3, .free (w.heap.size + 1) 4, .free (w.heap.size + 1) 5, .free (w.heap.size + 1) 6, .free (w.heap.size + 1) 7, .free (w.heap.size + 1) 8, .cell (w.heap.size) 0 (.bool (a.o 0)), .cell (w.heap.size) 1 (.bool (a.o 1)), .cell (w.heap.size) 2 (.bool (a.o 2)), .cell (w.heap.size) 3 (.bool (a.o 3)), .cell (w.heap.size) 4 (.bool (a.o 4)), .cell (w.heap.size) 5 (.bool (a.o 5)), .cell (w.heap.size) 6 (.bool (a.o 6)), .cell (w.heap.size) 7 (.slice aRa a.nr cRa), .cell (w.heap.size) 8 (.slice aDa a.nd cDa), .free (w.heap.size) 0, .free (w.heap.size) 1, .free (w.heap.size) 2, .free (w.heap.size) 3, .free (w.heap.size) 4, .free (w.heap.size) 5, .free (w.heap.size) 6, .free (w.heap.size) 7, .free (w.heap.size) 8, calF b aRb cRb aDb cDb, calF a aRa cRa aDa cDa, factsVF] w' → w'.cell? ⟨w8.heap.size, 0, none⟩ = some (.bool (a.o 0)) ∧ w'.cell? ⟨w8.heap.size, 1, none⟩ = some (.bool (a.o 1)) ∧ w'.cell? ⟨w8.heap.size, 2, none⟩ = some (.bool (a.o 2)) ∧ w'.cell? ⟨w8.heap.size, 3, none⟩ = some (.bool (a.o 3)) ∧ w'.cell? ⟨w8.heap.size, 4, none⟩ = some (.bool (a.o 4)) ∧ w'.cell? ⟨w8.heap.size, 5, none⟩ = some (.bool (a.o 5)) ∧ w'.cell? ⟨w8.heap.size, 6, none⟩ = some (.bool (a.o 6)) ∧ w'.cell? ⟨w8.heap.size, 7, none⟩ = some (.slice aRz (a.un a).nr cRz) ∧ w'.cell? ⟨w8.heap.size, 8, none⟩ = some (.slice aDz (a.un a).nd cDz) ∧ w'.cell? ⟨w.heap.size, 0, none⟩ = some (.bool (a.o 0)) ∧ w'.cell? ⟨w.heap.size, 1, none⟩ = some (.bool (a.o 1)) ∧ w'.cell? ⟨w.heap.size, 2, none⟩ = some (.bool (a.o 2)) ∧ w'.cell? ⟨w.heap.size, 3, none⟩ = some (.bool (a.o 3)) ∧ w'.cell? ⟨w.heap.size, 4, none⟩ = some (.bool (a.o 4)) ∧ w'.cell? ⟨w.heap.size, 5, none⟩ = some (.bool (a.o 5)) ∧ w'.cell? ⟨w.heap.size, 6, none⟩ = some (.bool (a.o 6)) ∧ w'.cell? ⟨w.heap.size, 7, none⟩ = some (.slice aRa a.nr cRa) ∧ w'.cell? ⟨w.heap.size, 8, none⟩ = some (.slice aDa a.nd cDa) ∧ Held w [.cell (w8.heap.size) 0 (.bool (a.o 0)), .cell (w8.heap.size) 1 (.bool (a.o 1)), .cell (w8.heap.size) 2 (.bool (a.o 2)), .cell (w8.heap.size) 3 (.bool (a.o 3)), .cell (w8.heap.size) 4 (.bool (a.o 4)), .cell (w8.heap.size) 5 (.bool (a.o 5)), .cell (w8.heap.size) 6 (.bool (a.o 6)), .cell (w8.heap.size) 7 (.slice aRz (a.un a).nr cRz), .cell (w8.heap.size) 8 (.slice aDz (a.un a).nd cDz), .free (w8.heap.size) 0, .free (w8.heap.size) 1, .free (w8.heap.size) 2, .free (w8.heap.size) 3, .free (w8.heap.size) 4, .free (w8.heap.size) 5, .free (w8.heap.size) 6, .free (w8.heap.size) 7, .free (w8.heap.size) 8, calF (a.un a) aRz cRz aDz cDz, .cell (w7.heap.size) 0 (.bool false), .cell (w7.heap.size) 1 (.bool false), .cell (w7.heap.size) 2 (.bool false), .cell (w7.heap.size) 3 (.bool false), .cell (w7.heap.size) 4 (.bool false), .cell (w7.heap.size) 5 (.bool false), .cell (w7.heap.size) 6 (.bool false), .cell (w7.heap.size) 7 (.slice none 0 0), .cell (w7.heap.size) 8 (.slice none 0 0), .free (w7.heap.size) 0, .free (w7.heap.size) 1, .free (w7.heap.size) 2, .free (w7.heap.size) 3, .free (w7.heap.size) 4, .free (w7.heap.size) 5, .free (w7.heap.size) 6, .free (w7.heap.size) 7, .free (w7.heap.size) 8, .cell (w6.heap.size) 0 (.bool false), .cell (w6.heap.size) 1 (.bool false), .cell (w6.heap.size) 2 (.bool false), .cell (w6.heap.size) 3 (.bool false), .cell (w6.heap.size) 4 (.bool false), .cell (w6.heap.size) 5 (.bool false), .cell (w6.heap.size) 6 (.bool false), .cell (w6.heap.size) 7 (.slice none 0 0), .cell (w6.heap.size) 8 (.slice none 0 0), .free (w6.heap.size) 0, .free (w6.heap.size) 1, .free (w6.heap.size) 2, .free (w6.heap.size) 3, .free (w6.heap.size) 4, .free (w6.heap.size) 5, .free (w6.heap.size) 6, .free (w6.heap.size) 7, .free (w6.heap.size) 8, .cell (w.heap.size + 1) 0 (.bool (b.o 0)), .cell (w.heap.size + 1) 1 (.bool (b.o 1)), .cell (w.heap.size + 1) 2 (.bool (b.o 2)), .cell (w.heap.size + 1) 3 (.bool (b.o 3)), .cell (w.heap.size + 1) 4 (.bool (b.o 4)), .cell (w.heap.size + 1) 5 (.bool (b.o 5)), .cell (w.heap.size + 1) 6 (.bool (b.o 6)), .cell (w.heap.size + 1) 7 (.slice aRb b.nr cRb), .cell (w.heap.size + 1) 8 (.slice aDb b.nd cDb), .free (w.heap.size + 1) 0, .free (w.heap.size + 1) 1, .free (w.heap.size + 1) 2, .free (w.heap.size + 1) 3, .free (w.heap.size + 1) 4, .free (w.heap.size + 1) 5, .free (w.heap.size + 1) 6, .free (w.heap.size + 1) 7, .free (w.heap.size + 1) 8, .cell (w.heap.size) 0 (.bool (a.o 0)), .cell (w.heap.size) 1 (.bool (a.o 1)), .cell (w.heap.size) 2 (.bool (a.o 2)), .cell (w.heap.size) 3 (.bool (a.o 3)), .cell (w.heap.size) 4 (.bool (a.o 4)), .cell (w.heap.size) 5 (.bool (a.o 5)), .cell (w.heap.size) 6 (.bool (a.o 6)), .cell (w.heap.size) 7 (.slice aRa a.nr cRa), .cell (w.heap.size) 8 (.slice aDa a.nd cDa), .free (w.heap.size) 0, .free (w.heap.size) 1, .free (w.heap.size) 2, .free (w.heap.size) 3, .free (w.heap.size) 4, .free (w.heap.size) 5, .free (w.heap.size) 6, .free (w.heap.size) 7, .free (w.heap.size) 8, calF b aRb cRb aDb cDb, calF a aRa cRa aDa cDa, factsVF] w') := Lib.hid (fun _ h => ⟨h.cell (w8.heap.size) 0 (.bool (a.o 0)) mh, h.cell (w8.heap.size) 1 (.bool (a.o 1)) (mt1 mh), h.cell (w8.heap.size) 2 (.bool (a.o 2)) (mt1 (mt1 mh)), h.cell (w8.heap.size) 3 (.bool (a.o 3)) (mt1 (mt1 (mt1 mh))), h.cell (w8.heap.size) 4 (.bool (a.o 4)) (mt1 (mt1 (mt1 (mt1 mh)))), h.cell (w8.heap.size) 5 (.bool (a.o 5)) (mt1 (mt1 (mt1 (mt1 (mt1 mh))))), h.cell (w8.heap.size) 6 (.bool (a.o 6)) (mt1 (mt1 (mt1 (mt1 (mt1 (mt1 mh)))))), h.cell (w8.heap.size) 7 (.slice aRz (a.un a).nr cRz) (mt1 (mt1 (mt1 (mt1 (mt1 (mt1 (mt1 mh))))))), h.cell (w8.heap.size) 8 (.slice aDz (a.un a).nd cDz) (mt8 mh), h.cell (w.heap.size) 0 (.bool (a.o 0)) (mt32 (mt32 (mt8 (mt1 mh)))), h.cell (w.heap.size) 1 (.bool (a.o 1)) (mt32 (mt32 (mt8 (mt1 (mt1 mh))))), h.cell (w.heap.size) 2 (.bool (a.o 2)) (mt32 (mt32 (mt8 (mt1 (mt1 (mt1 mh)))))), h.cell (w.heap.size) 3 (.bool (a.o 3)) (mt32 (mt32 (mt8 (mt1 (mt1 (mt1 (mt1 mh))))))), h.cell (w.heap.size) 4 (.bool (a.o 4)) (mt32 (mt32 (mt8 (mt1 (mt1 (mt1 (mt1 (mt1 mh)))))))), h.cell (w.heap.size) 5 (.bool (a.o 5)) (mt32 (mt32 (mt8 (mt1 (mt1 (mt1 (mt1 (mt1 (mt1 mh))))))))), h.cell (w.heap.size) 6 (.bool (a.o 6)) (mt32 (mt32 (mt8 (mt1 (mt1 (mt1 (mt1 (mt1 (mt1 (mt1 mh)))))))))), h.cell (w.heap.size) 7 (.slice aRa a.nr cRa) (mt32 (mt32 (mt8 (mt8 mh)))), h.cell (w.heap.size) 8 (.slice aDa a.nd cDa) (mt32 (mt32 (mt8 (mt8 (mt1 mh))))), h⟩)
  have KH : Hid (∀ w' : World, w'.cell? ⟨w8.heap.size, 0, none⟩ = some (.bool (a.o 0)) ∧ w'.cell? ⟨w8.heap.size, 1, none⟩ = some (.bool (a.o 1)) ∧ w'.cell? ⟨w8.heap.size, 2, none⟩ = some (.bool (a.o 2)) ∧ w'.cell? ⟨w8.heap.size, 3, none⟩ = some (.bool (a.o 3)) ∧ w'.cell? ⟨w8.heap.size, 4, none⟩ = some (.bool (a.o 4)) ∧ w'.cell? ⟨w8.heap.size, 5, none⟩ = some (.bool (a.o 5)) ∧ w'.cell? ⟨w8.heap.size, 6, none⟩ = some (.bool (a.o 6)) ∧ w'.cell? ⟨w8.heap.size, 7, none⟩ = some (.slice aRz (a.un a).nr cRz) ∧ w'.cell? ⟨w8.heap.size, 8, none⟩ = some (.slice aDz (a.un a).nd cDz) ∧ w'.cell? ⟨w.heap.size, 0, none⟩ = some (.bool (a.o 0)) ∧ w'.cell? ⟨w.heap.size, 1, none⟩ = some (.bool (a.o 1)) ∧ w'.cell? ⟨w.heap.size, 2, none⟩ = some (.bool (a.o 2)) ∧ w'.cell? ⟨w.heap.size, 3, none⟩ = some (.bool (a.o 3)) ∧ w'.cell? ⟨w.heap.size, 4, none⟩ = some (.bool (a.o 4)) ∧ w'.cell? ⟨w.heap.size, 5, none⟩ = some (.bool (a.o 5)) ∧ w'.cell? ⟨w.heap.size, 6, none⟩ = some (.bool (a.o 6)) ∧ w'.cell? ⟨w.heap.size, 7, none⟩ = some (.slice aRa a.nr cRa) ∧ w'.cell? ⟨w.heap.size, 8, none⟩ = some (.slice aDa a.nd cDa) ∧ Held w [.cell (w8.heap.size) 0 (.bool (a.o 0)), .cell (w8.heap.size) 1 (.bool (a.o 1)), .cell (w8.heap.size) 2 (.bool (a.o 2)), .cell (w8.heap.size) 3 (.bool (a.o 3)), .cell (w8.heap.size) 4 (.bool (a.o 4)), .cell (w8.heap.size) 5 (.bool (a.o 5)), .cell (w8.heap.size) 6 (.bool (a.o 6)), .cell (w8.heap.size) 7 (.slice aRz (a.un a).nr cRz), .cell (w8.heap.size) 8 (.slice aDz (a.un a).nd cDz), .free (w8.heap.size) 0, .free (w8.heap.size) 1, .free (w8.heap.size) 2, .free (w8.heap.size) 3, .free (w8.heap.size) 4, .free (w8.heap.size) 5, .free (w8.heap.size) 6, .free (w8.heap.size) 7, .free (w8.heap.size) 8, calF (a.un a) aRz cRz aDz cDz, .cell (w7.heap.size) 0 (.bool false), .cell (w7.heap.size) 1 (.bool false), .cell (w7.heap.size) 2 (.bool false), .cell (w7.heap.size) 3 (.bool false), .cell (w7.heap.size) 4 (.bool false), .cell (w7.heap.size) 5 (.bool false), .cell (w7.heap.size) 6 (.bool false), .cell (w7.heap.size) 7 (.slice none 0 0), .cell (w7.heap.size) 8 (.slice none 0 0), .free (w7.heap.size) 0, .free (w7.heap.size) 1, .free (w7.heap.size) 2, .free (w7.heap.size) 3, .free (w7.heap.size) 4, .free (w7.heap.size) 5, .free (w7.heap.size) 6, .free (w7.heap.size) 7, .free (w7.heap.size) 8, .cell (w6.heap.size) 0 (.bool false), .cell (w6.heap.size) 1 (.bool false), .cell (w6.heap.size) 2 (.bool false), .cell (w6.heap.size) 3 (.bool false), .cell (w6.heap.size) 4 (.bool false), .cell (w6.heap.size) 5 (.bool false), .cell (w6.heap.size) 6 (.bool false), .cell (w6.heap.size) 7 (.slice none 0 0), .cell (w6.heap.size) 8 (.slice none 0 0), .free (w6.heap.size) 0, .free (w6.heap.size) 1, .free (w6.heap.size) 2, .free (w6.heap.size) 3, .free (w6.heap.size) 4, .free (w6.heap.size) 5, .free (w6.heap.size) 6, .free (w6.heap.size) 7, .free (w6.heap.size) 8, .cell (w.heap.size + 1) 0 (.bool (b.o 0)), .cell (w.heap.size + 1) 1 (.bool (b.o 1)), .cell (w.heap.size + 1) 2 (.bool (b.o 2)), .cell (w.heap.size + 1) 3 (.bool (b.o 3)), .cell (w.heap.size + 1) 4 (.bool (b.o 4)), .cell (w.heap.size + 1) 5 (.bool (b.o 5)), .cell (w.heap.size + 1) 6 (.bool (b.o 6)), .cell (w.heap.size + 1) 7 (.slice aRb b.nr cRb), .cell (w.heap.size + 1) 8 (.slice aDb b.nd cDb), .free (w.heap.size + 1) 0, .free (w.heap.size + 1) 1, .free (w.heap.size + 1) 2, .free (w.heap.size + 1) 3, .free (w.heap.size + 1) 4, .free (w.heap.size + 1) 5, .free (w.heap.size + 1) 6, .free (w.heap.size + 1) 7, .free (w.heap.size + 1) 8, .cell (w.heap.size) 0 (.bool (a.o 0)), .cell (w.heap.size) 1 (.bool (a.o 1)), .cell (w.heap.size) 2 (.bool (a.o 2)), .cell (w.heap.size) 3 (.bool (a.o 3)), .cell (w.heap.size) 4 (.bool (a.o 4)), .cell (w.heap.size) 5 (.bool (a.o 5)), .cell (w.heap.size) 6 (.bool (a.o 6)), .cell (w.heap.size) 7 (.slice aRa a.nr cRa), .cell (w.heap.size) 8 (.slice aDa a.nd cDa), .free (w.heap.size) 0, .free (w.heap.size) 1, .free (w.heap.size) 2, .free (w.heap.size) 3, .free (w.heap.size) 4, .free (w.heap.size) 5, .free (w.heap.size) 6, .free (w.heap.size) 7, .free (w.heap.size) 8, calF b aRb cRb aDb cDb, calF a aRa cRa aDa cDa, factsVF] w' → Held w [.cell (w8.heap.size) 0 (.bool (a.o 0)), .cell (w8.heap.size) 1 (.bool (a.o 1)), .cell (w8.heap.size) 2 (.bool (a.o 2)), .cell (w8.heap.size) 3 (.bool (a.o 3)), .cell (w8.heap.size) 4 (.bool (a.o 4)), .cell (w8.heap.size) 5 (.bool (a.o 5)), .cell (w8.heap.size) 6 (.bool (a.o 6)), .cell (w8.heap.size) 7 (.slice aRz (a.un a).nr cRz), .cell (w8.heap.size) 8 (.slice aDz (a.un a).nd cDz), .free (w8.heap.size) 0, .free (w8.heap.size) 1, .free (w8.heap.size) 2, .free (w8.heap.size) 3, .free (w8.heap.size) 4, .free (w8.heap.size) 5, .free (w8.heap.size) 6, .free (w8.heap.size) 7, .free (w8.heap.size) 8, calF (a.un a) aRz cRz aDz cDz, .cell (w7.heap.size) 0 (.bool false), .cell (w7.heap.size) 1 (.bool false), .cell (w7.heap.size) 2 (.bool false), .cell (w7.heap.size) 3 (.bool false), .cell (w7.heap.size) 4 (.bool false), .cell (w7.heap.size) 5 (.bool false), .cell (w7.heap.size) 6 (.bool false), .cell (w7.heap.size) 7 (.slice none 0 0), .cell (w7.heap.size) 8 (.slice none 0 0), .free (w7.heap.size) 0, .free (w7.heap.size) 1, .free (w7.heap.size) 2, .free (w7.heap.size) 3, .free (w7.heap.size) 4, .free (w7.heap.size) 5, .free (w7.heap.size) 6, .free (w7.heap.size) 7, .free (w7.heap.size) 8, .cell (w6.heap.size) 0 (.bool false), .cell (w6.heap.size) 1 (.bool false), .cell (w6.heap.size) 2 (.bool false), .cell (w6.heap.size) 3 (.bool false), .cell (w6.heap.size) 4 (.bool false), .cell (w6.heap.size) 5 (.bool false), .cell (w6.heap.size) 6 (.bool false), .cell (w6.heap.size) 7 (.slice none 0 0), .cell (w6.heap.size) 8 (.slice none 0 0), .free (w6.heap.size) 0, .free (w6.heap.size) 1, .free (w6.heap.size) 2, .free (w6.heap.size) 3, .free (w6.heap.size) 4, .free (w6.heap.size) 5, .free (w6.heap.size) 6, .free (w6.heap.size) 7, .free (w6.heap.size) 8, .cell (w.heap.size + 1) 0 (.bool (b.o 0)), .cell (w.heap.size + 1) 1 (.bool (b.o 1)), .cell (w.heap.size + 1) 2 (.bool (b.o 2)), .cell (w.heap.size + 1) 3 (.bool (b.o 3)), .cell (w.heap.size + 1) 4 (.bool (b.o 4)), .cell (w.heap.size + 1) 5 (.bool (b.o 5)), .cell (w.heap.size + 1) 6 (.bool (b.o 6)), .cell (w.heap.size + 1) 7 (.slice aRb b.nr cRb), .cell (w.heap.size + 1) 8 (.slice aDb b.nd cDb), .free (w.heap.size + 1) 0, .free (w.heap.size + 1) 1, .free (w.heap.size + 1) 2, .free (w.heap.size + 1) 3, .free (w.heap.size + 1) 4, .free (w.heap.size + 1) 5, .free (w.heap.size + 1) 6, .free (w.heap.size + 1) 7, .free (w.heap.size + 1) 8, .cell (w.heap.size) 0 (.bool (a.o 0)), .cell (w.heap.size) 1 (.bool (a.o 1)), .cell (w.heap.size) 2 (.bool (a.o 2)), .cell (w.heap.size) 3 (.bool (a.o 3)), .cell (w.heap.size) 4 (.bool (a.o 4)), .cell (w.heap.size) 5 (.bool (a.o 5)), .cell (w.heap.size) 6 (.bool (a.o 6)), .cell (w.heap.size) 7 (.slice aRa a.nr cRa), .cell (w.heap.size) 8 (.slice aDa a.nd cDa), .free (w.heap.size) 0, .free (w.heap.size) 1, .free (w.heap.size) 2, .free (w.heap.size) 3, .free (w.heap.size) 4, .free (w.heap.size) 5, .free (w.heap.size) 6, .free (w.heap.size) 7, .free (w.heap.size) 8, calF b aRb cRb aDb cDb, calF a aRa cRa aDa cDa, factsVF] w') := Lib.hid (fun _ h => h.2.2.2.2.2.2.2.2.2.2.2.2.2.2.2.2.2.2)
  refine wp_region_held_drew (S := fun w' => w'.cell? ⟨w8.heap.size, 0, none⟩ = some (.bool (a.o 0)) ∧ w'.cell? ⟨w8.heap.size, 1, none⟩ = some (.bool (a.o 1)) ∧ w'.cell? ⟨w8.heap.size, 2, none⟩ = some (.bool (a.o 2)) ∧ w'.cell? ⟨w8.heap.size, 3, none⟩ = some (.bool (a.o 3)) ∧ w'.cell? ⟨w8.heap.size, 4, none⟩ = some (.bool (a.o 4)) ∧ w'.cell? ⟨w8.heap.size, 5, none⟩ = some (.bool (a.o 5)) ∧ w'.cell? ⟨w8.heap.size, 6, none⟩ = some (.bool (a.o 6)) ∧ w'.cell? ⟨w8.heap.size, 7, none⟩ = some (.slice aRz (a.un a).nr cRz) ∧ w'.cell? ⟨w8.heap.size, 8, none⟩ = some (.slice aDz (a.un a).nd cDz) ∧ w'.cell? ⟨w.heap.size, 0, none⟩ = some (.bool (a.o 0)) ∧ w'.cell? ⟨w.heap.size, 1, none⟩ = some (.bool (a.o 1)) ∧ w'.cell? ⟨w.heap.size, 2, none⟩ = some (.bool (a.o 2)) ∧ w'.cell? ⟨w.heap.size, 3, none⟩ = some (.bool (a.o 3)) ∧ w'.cell? ⟨w.heap.size, 4, none⟩ = some (.bool (a.o 4)) ∧ w'.cell? ⟨w.heap.size, 5, none⟩ = some (.bool (a.o 5)) ∧ w'.cell? ⟨w.heap.size, 6, none⟩ = some (.bool (a.o 6)) ∧ w'.cell? ⟨w.heap.size, 7, none⟩ = some (.slice aRa a.nr cRa) ∧ w'.cell? ⟨w.heap.size, 8, none⟩ = some (.slice aDa a.nd cDa) ∧ Held w [.cell (w8.heap.size) 0 (.bool (a.o 0)), .cell (w8.heap.size) 1 (.bool (a.o 1)), .cell (w8.heap.size) 2 (.bool (a.o 2)), .cell (w8.heap.size) 3 (.bool (a.o 3)), .cell (w8.heap.size) 4 (.bool (a.o 4)), .cell (w8.heap.size) 5 (.bool (a.o 5)), .cell (w8.heap.size) 6 (.bool (a.o 6)), .cell (w8.heap.size) 7 (.slice aRz (a.un a).nr cRz), .cell (w8.heap.size) 8 (.slice aDz (a.un a).nd cDz), .free (w8.heap.size) 0, .free (w8.heap.size) 1, .free (w8.heap.size) 2, .free (w8.heap.size) 3, .free (w8.heap.size) 4, .free (w8.heap.size) 5, .free (w8.heap.size) 6, .free (w8.heap.size) 7, .free (w8.heap.size) 8, calF (a.un a) aRz cRz aDz cDz, .cell (w7.heap.size) 0 (.bool false), .cell (w7.heap.size) 1 (.bool false), .cell (w7.heap.size) 2 (.bool false), .cell (w7.heap.size) 3 (.bool false), .cell (w7.heap.size) 4 (.bool false), .cell (w7.heap.size) 5 (.bool false), .cell (w7.heap.size) 6 (.bool false), .cell (w7.heap.size) 7 (.slice none 0 0), .cell (w7.heap.size) 8 (.slice none 0 0), .free (w7.heap.size) 0, .free (w7.heap.size) 1, .free (w7.heap.size) 2, .free (w7.heap.size) 3, .free (w7.heap.size) 4, .free (w7.heap.size) 5, .free (w7.heap.size) 6, .free (w7.heap.size) 7, .free (w7.heap.size) 8, .cell (w6.heap.size) 0 (.bool false), .cell (w6.heap.size) 1 (.bool false), .cell (w6.heap.size) 2 (.bool false), .cell (w6.heap.size) 3 (.bool false), .cell (w6.heap.size) 4 (.bool false), .cell (w6.heap.size) 5 (.bool false), .cell (w6.heap.size) 6 (.bool false), .cell (w6.heap.size) 7 (.slice none 0 0), .cell (w6.heap.size) 8 (.slice none 0 0), .free (w6.heap.size) 0, .free (w6.heap.size) 1, .free (w6.heap.size) 2, .free (w6.heap.size) 3, .free (w6.heap.size) 4, .free (w6.heap.size) 5, .free (w6.heap.size) 6, .free (w6.heap.size) 7, .free (w6.heap.size) 8, .cell (w.heap.size + 1) 0 (.bool (b.o 0)), .cell (w.heap.size + 1) 1 (.bool (b.o 1)), .cell (w.heap.size + 1) 2 (.bool (b.o 2)), .cell (w.heap.size + 1) 3 (.bool (b.o 3)), .cell (w.heap.size + 1) 4 (.bool (b.o 4)), .cell (w.heap.size + 1) 5 (.bool (b.o 5)), .cell (w.heap.size + 1) 6 (.bool (b.o 6)), .cell (w.heap.size + 1) 7 (.slice aRb b.nr cRb), .cell (w.heap.size + 1) 8 (.slice aDb b.nd cDb), .free (w.heap.size + 1) 0, .free (w.heap.size + 1) 1, .free (w.heap.size + 1) 2, .free (w.heap.size + 1) 3, .free (w.heap.size + 1) 4, .free (w.heap.size + 1) 5, .free (w.heap.size + 1) 6, .free (w.heap.size + 1) 7, .free (w.heap.size + 1) 8, .cell (w.heap.size) 0 (.bool (a.o 0)), .cell (w.heap.size) 1 (.bool (a.o 1)), .cell (w.heap.size) 2 (.bool (a.o 2)), .cell (w.heap.size) 3 (.bool (a.o 3)), .cell (w.heap.size) 4 (.bool (a.o 4)), .cell (w.heap.size) 5 (.bool (a.o 5)), .cell (w.heap.size) 6 (.bool (a.o 6)), .cell (w.heap.size) 7 (.slice aRa a.nr cRa), .cell (w.heap.size) 8 (.slice aDa a.nd cDa), .free (w.heap.size) 0, .free (w.heap.size) 1, .free (w.heap.size) 2, .free (w.heap.size) 3, .free (w.heap.size) 4, .free (w.heap.size) 5, .free (w.heap.size) 6, .free (w.heap.size) 7, .free (w.heap.size) 8, calF b aRb cRb aDb cDb, calF a aRa cRa aDa cDa, factsVF] w') (by kernel_rfl) (KS.out _ H.drew) (fun hHeld => ?_)
  clear H
  refine wpAnyH_take (i := 0) (oi := ⟨some 53, _, _, _, _, _⟩) (v := ?_) rfl (by kernel_rfl) (by kernel_rfl) (by kernel_rfl) (fun _ _ _ h => h) (Or.inl ⟨by rfl, ?_⟩) (by assumption) ?_
  rotate_left
  · intro w hSw; (try dsimp only at hSw); go_simp; try with_reducible rfl
  simp only [Act.put, List.setIfInBounds_toArray, List.set_cons_zero, List.set_cons_succ]
  refine wpAnyH_take (i := 1) (oi := ⟨some 54, _, _, _, _, _⟩) (v := ?_) rfl (by kernel_rfl) (by kernel_rfl) (by kernel_rfl) (fun _ _ _ h => h) (Or.inl ⟨by rfl, ?_⟩) (by assumption) ?_
  rotate_left
  · intro w hSw; (try dsimp only at hSw); go_simp; try with_reducible rfl
  simp only [Act.put, List.setIfInBounds_toArray, List.set_cons_zero, List.set_cons_succ]
  refine wpAnyH_take (i := 2) (oi := ⟨some 55, _, _, _, _, _⟩) (v := ?_) rfl (by kernel_rfl) (by kernel_rfl) (by kernel_rfl) (fun _ _ _ h => h) (Or.inl ⟨by rfl, ?_⟩) (by assumption) ?_
  rotate_left
  · intro w hSw; (try dsimp only at hSw); go_simp; try with_reducible rfl
  simp only [Act.put, List.setIfInBounds_toArray, List.set_cons_zero, List.set_cons_succ]
  refine wpAnyH_take (i := 3) (oi := ⟨some 56, _, _, _, _, _⟩) (v := ?_) rfl (by kernel_rfl) (by kernel_rfl) (by kernel_rfl) (fun _ _ _ h => h) (Or.inl ⟨by rfl, ?_⟩) (by assumption) ?_
  rotate_left
  · intro w hSw; (try dsimp only at hSw); go_simp; try with_reducible rfl
  simp only [Act.put, List.setIfInBounds_toArray, List.set_cons_zero, List.set_cons_succ]
  refine wpAnyH_take (i := 4) (oi := ⟨some 57, _, _, _, _, _⟩) (v := ?_) rfl (by kernel_rfl) (by kernel_rfl) (by kernel_rfl) (fun _ _ _ h => h) (Or.inl ⟨by rfl, ?_⟩) (by assumption) ?_
  rotate_left
  · intro w hSw; (try dsimp only at hSw); go_simp; try with_reducible rfl
  simp only [Act.put, List.setIfInBounds_toArray, List.set_cons_zero, List.set_cons_succ]
  refine wpAnyH_take (i := 5) (oi := ⟨some 58, _, _, _, _, _⟩) (v := ?_) rfl (by kernel_rfl) (by kernel_rfl) (by kernel_rfl) (fun _ _ _ h => h) (Or.inl ⟨by rfl, ?_⟩) (by assumption) ?_
  rotate_left
  · intro w hSw; (try dsimp only at hSw); go_simp; try with_reducible rfl
  simp only [Act.put, List.setIfInBounds_toArray, List.set_cons_zero, List.set_cons_succ]
  refine wpAnyH_take (i := 6) (oi := ⟨some 59, _, _, _, _, _⟩) (v := ?_) rfl (by kernel_rfl) (by kernel_rfl) (by kernel_rfl) (fun _ _ _ h => h) (Or.inl ⟨by rfl, ?_⟩) (by assumption) ?_
  rotate_left
  · intro w hSw; (try dsimp only at hSw); go_simp; try with_reducible rfl
  simp only [Act.put, List.setIfInBounds_toArray, List.set_cons_zero, List.set_cons_succ]
  refine wpAnyH_take (i := 7) (oi := ⟨some 60, _, _, _, _, _⟩) (v := ?_) rfl (by kernel_rfl) (by kernel_rfl) (by kernel_rfl) (fun _ _ _ h => h) (Or.inl ⟨by rfl, ?_⟩) (by assumption) ?_
  rotate_left
  · intro w hSw; (try dsimp only at hSw); go_simp; try with_reducible rfl
  simp only [Act.put, List.setIfInBounds_toArray, List.set_cons_zero, List.set_cons_succ]
  refine wpAnyH_take (i := 8) (oi := ⟨some 61, _, _, _, _, _⟩) (v := ?_) rfl (by kernel_rfl) (by kernel_rfl) (by kernel_rfl) (fun _ _ _ h => h) (Or.inl ⟨by rfl, ?_⟩) (by assumption) ?_
  rotate_left
  · intro w hSw; (try dsimp only at hSw); go_simp; try with_reducible rfl
  simp only [Act.put, List.setIfInBounds_toArray, List.set_cons_zero, List.set_cons_succ]
  refine wpAnyH_take (i := 9) (oi := ⟨some 62, _, _, _, _, _⟩) (v := ?_) rfl (by kernel_rfl) (by kernel_rfl) (by kernel_rfl) (fun _ _ _ h => h) (Or.inl ⟨by rfl, ?_⟩) (by assumption) ?_
  rotate_left
  · intro w hSw; (try dsimp only at hSw); go_simp; try with_reducible rfl
  simp only [Act.put, List.setIfInBounds_toArray, List.set_cons_zero, List.set_cons_succ]
  refine wpAnyH_take (i := 11) (oi := ⟨some 64, _, _, _, _, _⟩) (v := ?_) rfl (by kernel_rfl) (by kernel_rfl) (by kernel_rfl) (fun _ _ _ h => h) (Or.inl ⟨by rfl, ?_⟩) (by assumption) ?_
  rotate_left
  · intro w hSw; (try dsimp only at hSw); go_simp; try with_reducible rfl
  simp only [Act.put, List.setIfInBounds_toArray, List.set_cons_zero, List.set_cons_succ]
  refine wpAnyH_take (i := 12) (oi := ⟨some 65, _, _, _, _, _⟩) (v := ?_) rfl (by kernel_rfl) (by kernel_rfl) (by kernel_rfl) (fun _ _ _ h => h) (Or.inl ⟨by rfl, ?_⟩) (by assumption) ?_
  rotate_left
  · intro w hSw; (try dsimp only at hSw); go_simp; try with_reducible rfl
  simp only [Act.put, List.setIfInBounds_toArray, List.set_cons_zero, List.set_cons_succ]
  refine wpAnyH_ready (rs := [10]) (by kernel_rfl) (by simp) ?_
  refine AllReadyH.cons (o := ⟨some 63, _, _, _, _, _⟩) rfl (fun KK hK => ?_) AllReadyH.nil
  go_simp
  have H := KH.out _ hHeld
  (with_reducible refine (qiz K a aRz cRz aDz cDz n false _ (H.factsV (mt32 (mt32 (mt8 (mt8 (mt8 (mt1 (mt1 (mt1 (mt1 (mt1 mh))))))))))) MZ.out (H.cal (mt8 (mt8 (mt1 (mt1 mh))))) ⟨fun g => absurd g (by decide), fun g => absurd g HP.out⟩).mono ?_)
  rintro e w' ⟨rfl, hb⟩
  go_wp2_with fail
  refine hK.out _ _ ?_ (fun hNew => ?_)
  · exact KS.out _ (Held.below H hb)
  clear hK KK hHeld H hb
  have hHeld := hNew
  clear hNew
  try simp only [Act.put, List.setIfInBounds_toArray, List.set_cons_zero, List.set_cons_succ]
  refine wpAnyH_ready (rs := [13]) (by kernel_rfl) (by simp) ?_
  refine AllReadyH.cons (o := ⟨some 66, _, _, _, _, _⟩) rfl (fun KK hK => ?_) AllReadyH.nil
  go_simp
  have H := KH.out _ hHeld
  (with_reducible refine (K.is a aRa cRa aDa cDa n false _ (H.factsV (mt32 (mt32 (mt8 (mt8 (mt8 (mt1 (mt1 (mt1 (mt1 (mt1 mh))))))))))) MA.out (H.cal (mt32 (mt32 (mt8 (mt8 (mt8 (mt1 (mt1 (mt1 (mt1 mh)))))))))) ⟨fun g => absurd g (by decide), fun g => absurd g HP.out⟩).mono ?_)
  rintro e w' ⟨rfl, hb⟩
  go_wp2_with fail
  refine hK.out _ _ ?_ (fun hNew => ?_)
  · exact KS.out _ (Held.below H hb)
  clear hK KK hHeld H hb
  have hHeld := hNew
  clear hNew
  try simp only [Act.put, List.setIfInBounds_toArray, List.set_cons_zero, List.set_cons_succ]
  refine wpAnyH_take (i := 14) (oi := ⟨some 67, _, _, _, _, _⟩) (v := ?_) rfl (by kernel_rfl) (by kernel_rfl) (by kernel_rfl) (fun _ _ _ h => h) (Or.inl ⟨by rfl, ?_⟩) (by assumption) ?_
  rotate_left
  · intro w hSw; (try dsimp only at hSw); go_simp; try with_reducible rfl
  simp only [Act.put, List.setIfInBounds_toArray, List.set_cons_zero, List.set_cons_succ]
  refine wpAnyH_take (i := 15) (oi := ⟨some 68, _, _, _, _, _⟩) (v := ?_) rfl (by kernel_rfl) (by kernel_rfl) (by kernel_rfl) (fun _ _ _ h => h) (Or.inl ⟨by rfl, ?_⟩) (by assumption) ?_
  rotate_left
  · intro w hSw; (try dsimp only at hSw); go_simp; try with_reducible rfl
  simp only [Act.put, List.setIfInBounds_toArray, List.set_cons_zero, List.set_cons_succ]
  refine wpAnyH_done (by kernel_rfl) ?_ _
  have H := KH.out _ hHeld
  clear KS KH hHeld
  go_wp2_with fail
  go_ret
  exact ⟨rfl, H.old⟩

set_option maxHeartbeats 8000000 in
set_option maxRecDepth 100000 in
theorem caboth_yt (K : CalWay) (a : Ca) (aRa : Option Addr) (cRa : Nat) (aDa : Option Addr) (cDa : Nat) (b : Ca) (aRb : Option Addr) (cRb : Nat) (aDb : Option Addr) (cDb : Nat) (n : Int) (w : World) (hL : FactsV w) (hCa : CalAt w a aRa cRa aDa cDa) (hCb : CalAt w b aRb cRb aDb cDb) (fa : decide (a.nr ≤ 12 ∧ a.nd ≤ 60) = true) (fb : decide (b.nr ≤ 12 ∧ b.nd ≤ 60) = true) (za : a.Small) (zb : b.Small) (ea : a.Few) (eb : b.Few) (ma : a.May) (mb : b.May) (mz : (a.un a).May) (hp : a.Is n) (mx : (a.un b).May) (my : (b.un a).May) (q : Bool) (hq : q = true ↔ b.Is n) (hr : q = true ↔ (a.Is n ∧ b.Is n)) (hs : q = true ↔ (b.Is n ∧ a.Is n)) :
    Calls Tryd.prog 5 #[.agg #[.bool (a.o 0), .bool (a.o 1), .bool (a.o 2), .bool (a.o 3), .bool (a.o 4), .bool (a.o 5), .bool (a.o 6), .slice aRa a.nr cRa, .slice aDa a.nd cDa], .agg #[.bool (b.o 0), .bool (b.o 1), .bool (b.o 2), .bool (b.o 3), .bool (b.o 4), .bool (b.o 5), .bool (b.o 6), .slice aRb b.nr cRb, .slice aDb b.nd cDb], .int .i64 n] w fun e w' => e = .returned (.bool true) ∧ Below w.heap.size w w' := by
  have H := (((Held.start w).add (f := factsVF) hL).add (f := calF a aRa cRa aDa cDa) hCa).add (f := calF b aRb cRb aDb cDb) hCb
  clear hL hCa hCb
  have HFA := Lib.hid fa
  have HFB := Lib.hid fb
  have HZA := Lib.hid za
  have HZB := Lib.hid zb
  have EA := Lib.hid ea
  have EB := Lib.hid eb
  have MA := Lib.hid ma
  have MB := Lib.hid mb
  have MZ := Lib.hid mz
  have HP := Lib.hid hp
  have MX := Lib.hid mx
  have MY := Lib.hid my
  have HQ := Lib.hid hq
  have HR := Lib.hid hr
  have HS2 := Lib.hid hs
  clear fa fb za zb ea eb ma mb mz hp mx my hq hr hs
  go_enter Tryd.func5, Tryd.ntmps5
  go_wp2_with fail
  replace H := ((H.box_9 (w.heap.size) (.bool (a.o 0)) (.bool (a.o 1)) (.bool (a.o 2)) (.bool (a.o 3)) (.bool (a.o 4)) (.bool (a.o 5)) (.bool (a.o 6)) (.slice aRa a.nr cRa) (.slice aDa a.nd cDa) 26 rfl).box_9 (w.heap.size + 1) (.bool (b.o 0)) (.bool (b.o 1)) (.bool (b.o 2)) (.bool (b.o 3)) (.bool (b.o 4)) (.bool (b.o 5)) (.bool (b.o 6)) (.slice aRb b.nr cRb) (.slice aDb b.nd cDb) 26 (by simp))
  (with_reducible refine (cashown_any K _ (H.factsV (mt32 (mt1 (mt1 (mt1 (mt1 (mt1 (mt1 mh))))))))).mono ?_)
  rintro e w1 ⟨rfl, hb⟩
  replace H := H.below hb
  clear hb
  have ca0 := H.cell (w.heap.size) 0 (.bool (a.o 0)) (mt8 (mt8 (mt1 (mt1 mh))))
  have ca1 := H.cell (w.heap.size) 1 (.bool (a.o 1)) (mt8 (mt8 (mt1 (mt1 (mt1 mh)))))
  have ca2 := H.cell (w.heap.size) 2 (.bool (a.o 2)) (mt8 (mt8 (mt1 (mt1 (mt1 (mt1 mh))))))
  have ca3 := H.cell (w.heap.size) 3 (.bool (a.o 3)) (mt8 (mt8 (mt1 (mt1 (mt1 (mt1 (mt1 mh)))))))
  have ca4 := H.cell (w.heap.size) 4 (.bool (a.o 4)) (mt8 (mt8 (mt1 (mt1 (mt1 (mt1 (mt1 (mt1 mh))))))))
  have ca5 := H.cell (w.heap.size) 5 (.bool (a.o 5)) (mt8 (mt8 (mt1 (mt1 (mt1 (mt1 (mt1 (mt1 (mt1 mh)))))))))
  have ca6 := H.cell (w.heap.size) 6 (.bool (a.o 6)) (mt8 (mt8 (mt8 mh)))
  have ca7 := H.cell (w.heap.size) 7 (.slice aRa a.nr cRa) (mt8 (mt8 (mt8 (mt1 mh))))
  have ca8 := H.cell (w.heap.size) 8 (.slice aDa a.nd cDa) (mt8 (mt8 (mt8 (mt1 (mt1 mh)))))
  have la := H.lt (w.heap.size) 0 (.bool (a.o 0)) (mt8 (mt8 (mt1 (mt1 mh))))
  go_wp2_with fail
  clear ca0 ca1 ca2 ca3 ca4 ca5 ca6 ca7 ca8 la
  (with_reducible refine (few_any a aRa cRa aDa cDa true _ HFA.out).mono ?_)
  rintro e w2 ⟨rfl, hb⟩
  replace H := H.below hb
  clear hb
  have cb0 := H.cell (w.heap.size + 1) 0 (.bool (b.o 0)) mh
  have cb1 := H.cell (w.heap.size + 1) 1 (.bool (b.o 1)) (mt1 mh)
  have cb2 := H.cell (w.heap.size + 1) 2 (.bool (b.o 2)) (mt1 (mt1 mh))
  have cb3 := H.cell (w.heap.size + 1) 3 (.bool (b.o 3)) (mt1 (mt1 (mt1 mh)))
  have cb4 := H.cell (w.heap.size + 1) 4 (.bool (b.o 4)) (mt1 (mt1 (mt1 (mt1 mh))))
  have cb5 := H.cell (w.heap.size + 1) 5 (.bool (b.o 5)) (mt1 (mt1 (mt1 (mt1 (mt1 mh)))))
  have cb6 := H.cell (w.heap.size + 1) 6 (.bool (b.o 6)) (mt1 (mt1 (mt1 (mt1 (mt1 (mt1 mh))))))
  have cb7 := H.cell (w.heap.size + 1) 7 (.slice aRb b.nr cRb) (mt1 (mt1 (mt1 (mt1 (mt1 (mt1 (mt1 mh)))))))
  have cb8 := H.cell (w.heap.size + 1) 8 (.slice aDb b.nd cDb) (mt8 mh)
  have lb := H.lt (w.heap.size + 1) 0 (.bool (b.o 0)) mh
  go_wp2_with fail
  clear cb0 cb1 cb2 cb3 cb4 cb5 cb6 cb7 cb8 lb
  (with_reducible refine (few_any b aRb cRb aDb cDb true _ HFB.out).mono ?_)
  rintro e w3 ⟨rfl, hb⟩
  replace H := H.below hb
  clear hb
  have ca0 := H.cell (w.heap.size) 0 (.bool (a.o 0)) (mt8 (mt8 (mt1 (mt1 mh))))
  have ca1 := H.cell (w.heap.size) 1 (.bool (a.o 1)) (mt8 (mt8 (mt1 (mt1 (mt1 mh)))))
  have ca2 := H.cell (w.heap.size) 2 (.bool (a.o 2)) (mt8 (mt8 (mt1 (mt1 (mt1 (mt1 mh))))))
  have ca3 := H.cell (w.heap.size) 3 (.bool (a.o 3)) (mt8 (mt8 (mt1 (mt1 (mt1 (mt1 (mt1 mh)))))))
  have ca4 := H.cell (w.heap.size) 4 (.bool (a.o 4)) (mt8 (mt8 (mt1 (mt1 (mt1 (mt1 (mt1 (mt1 mh))))))))
  have ca5 := H.cell (w.heap.size) 5 (.bool (a.o 5)) (mt8 (mt8 (mt1 (mt1 (mt1 (mt1 (mt1 (mt1 (mt1 mh)))))))))
  have ca6 := H.cell (w.heap.size) 6 (.bool (a.o 6)) (mt8 (mt8 (mt8 mh)))
  have ca7 := H.cell (w.heap.size) 7 (.slice aRa a.nr cRa) (mt8 (mt8 (mt8 (mt1 mh))))
  have ca8 := H.cell (w.heap.size) 8 (.slice aDa a.nd cDa) (mt8 (mt8 (mt8 (mt1 (mt1 mh)))))
  have la := H.lt (w.heap.size) 0 (.bool (a.o 0)) (mt8 (mt8 (mt1 (mt1 mh))))
  go_wp2_with fail
  clear ca0 ca1 ca2 ca3 ca4 ca5 ca6 ca7 ca8 la
  (with_reducible refine (rcmay_any a aRa cRa aDa cDa true _ HZA.out (H.cal (mt32 (mt1 (mt1 (mt1 (mt1 (mt1 mh))))))) ⟨fun _ => MA.out, fun _ => rfl⟩).mono ?_)
  rintro e w4 ⟨rfl, hb⟩
  replace H := H.below hb
  clear hb
  have cb0 := H.cell (w.heap.size + 1) 0 (.bool (b.o 0)) mh
  have cb1 := H.cell (w.heap.size + 1) 1 (.bool (b.o 1)) (mt1 mh)
  have cb2 := H.cell (w.heap.size + 1) 2 (.bool (b.o 2)) (mt1 (mt1 mh))
  have cb3 := H.cell (w.heap.size + 1) 3 (.bool (b.o 3)) (mt1 (mt1 (mt1 mh)))
  have cb4 := H.cell (w.heap.size + 1) 4 (.bool (b.o 4)) (mt1 (mt1 (mt1 (mt1 mh))))
  have cb5 := H.cell (w.heap.size + 1) 5 (.bool (b.o 5)) (mt1 (mt1 (mt1 (mt1 (mt1 mh)))))
  have cb6 := H.cell (w.heap.size + 1) 6 (.bool (b.o 6)) (mt1 (mt1 (mt1 (mt1 (mt1 (mt1 mh))))))
  have cb7 := H.cell (w.heap.size + 1) 7 (.slice aRb b.nr cRb) (mt1 (mt1 (mt1 (mt1 (mt1 (mt1 (mt1 mh)))))))
  have cb8 := H.cell (w.heap.size + 1) 8 (.slice aDb b.nd cDb) (mt8 mh)
  have lb := H.lt (w.heap.size + 1) 0 (.bool (b.o 0)) mh
  go_wp2_with fail
  clear cb0 cb1 cb2 cb3 cb4 cb5 cb6 cb7 cb8 lb
  (with_reducible refine (rcmay_any b aRb cRb aDb cDb true _ HZB.out (H.cal (mt32 (mt1 (mt1 (mt1 (mt1 mh)))))) ⟨fun _ => MB.out, fun _ => rfl⟩).mono ?_)
  rintro e w5 ⟨rfl, hb⟩
  replace H := H.below hb
  clear hb
  have ca0 := H.cell (w.heap.size) 0 (.bool (a.o 0)) (mt8 (mt8 (mt1 (mt1 mh))))
  have ca1 := H.cell (w.heap.size) 1 (.bool (a.o 1)) (mt8 (mt8 (mt1 (mt1 (mt1 mh)))))
  have ca2 := H.cell (w.heap.size) 2 (.bool (a.o 2)) (mt8 (mt8 (mt1 (mt1 (mt1 (mt1 mh))))))
  have ca3 := H.cell (w.heap.size) 3 (.bool (a.o 3)) (mt8 (mt8 (mt1 (mt1 (mt1 (mt1 (mt1 mh)))))))
  have ca4 := H.cell (w.heap.size) 4 (.bool (a.o 4)) (mt8 (mt8 (mt1 (mt1 (mt1 (mt1 (mt1 (mt1 mh))))))))
  have ca5 := H.cell (w.heap.size) 5 (.bool (a.o 5)) (mt8 (mt8 (mt1 (mt1 (mt1 (mt1 (mt1 (mt1 (mt1 mh)))))))))
  have ca6 := H.cell (w.heap.size) 6 (.bool (a.o 6)) (mt8 (mt8 (mt8 mh)))
  have ca7 := H.cell (w.heap.size) 7 (.slice aRa a.nr cRa) (mt8 (mt8 (mt8 (mt1 mh))))
  have ca8 := H.cell (w.heap.size) 8 (.slice aDa a.nd cDa) (mt8 (mt8 (mt8 (mt1 (mt1 mh)))))
  have la := H.lt (w.heap.size) 0 (.bool (a.o 0)) (mt8 (mt8 (mt1 (mt1 mh))))
  have cb0 := H.cell (w.heap.size + 1) 0 (.bool (b.o 0)) mh
  have cb1 := H.cell (w.heap.size + 1) 1 (.bool (b.o 1)) (mt1 mh)
  have cb2 := H.cell (w.heap.size + 1) 2 (.bool (b.o 2)) (mt1 (mt1 mh))
  have cb3 := H.cell (w.heap.size + 1) 3 (.bool (b.o 3)) (mt1 (mt1 (mt1 mh)))
  have cb4 := H.cell (w.heap.size + 1) 4 (.bool (b.o 4)) (mt1 (mt1 (mt1 (mt1 mh))))
  have cb5 := H.cell (w.heap.size + 1) 5 (.bool (b.o 5)) (mt1 (mt1 (mt1 (mt1 (mt1 mh)))))
  have cb6 := H.cell (w.heap.size + 1) 6 (.bool (b.o 6)) (mt1 (mt1 (mt1 (mt1 (mt1 (mt1 mh))))))
  have cb7 := H.cell (w.heap.size + 1) 7 (.slice aRb b.nr cRb) (mt1 (mt1 (mt1 (mt1 (mt1 (mt1 (mt1 mh)))))))
  have cb8 := H.cell (w.heap.size + 1) 8 (.slice aDb b.nd cDb) (mt8 mh)
  have lb := H.lt (w.heap.size + 1) 0 (.bool (b.o 0)) mh
  go_wp2_with fail
  clear ca0 ca1 ca2 ca3 ca4 ca5 ca6 ca7 ca8 la cb0 cb1 cb2 cb3 cb4 cb5 cb6 cb7 cb8 lb
  (with_reducible refine (quy K a aRa cRa aDa cDa b aRb cRb aDb cDb _ (H.factsV (mt32 (mt1 (mt1 (mt1 (mt1 (mt1 (mt1 mh)))))))) EA.out EB.out MA.out MB.out (H.cal (mt32 (mt1 (mt1 (mt1 (mt1 (mt1 mh))))))) (H.cal (mt32 (mt1 (mt1 (mt1 (mt1 mh)))))) MX.out).mono ?_)
  rintro e w6 ⟨aRx, cRx, aDx, cDx, rfl, hC, hb⟩
  replace H := H.below hb
  clear hb
  replace H := H.add (f := calF (a.un b) aRx cRx aDx cDx) hC
  clear hC
  have ca0 := H.cell (w.heap.size) 0 (.bool (a.o 0)) (mt8 (mt8 (mt1 (mt1 (mt1 mh)))))
  have ca1 := H.cell (w.heap.size) 1 (.bool (a.o 1)) (mt8 (mt8 (mt1 (mt1 (mt1 (mt1 mh))))))
  have ca2 := H.cell (w.heap.size) 2 (.bool (a.o 2)) (mt8 (mt8 (mt1 (mt1 (mt1 (mt1 (mt1 mh)))))))
  have ca3 := H.cell (w.heap.size) 3 (.bool (a.o 3)) (mt8 (mt8 (mt1 (mt1 (mt1 (mt1 (mt1 (mt1 mh))))))))
  have ca4 := H.cell (w.heap.size) 4 (.bool (a.o 4)) (mt8 (mt8 (mt1 (mt1 (mt1 (mt1 (mt1 (mt1 (mt1 mh)))))))))
  have ca5 := H.cell (w.heap.size) 5 (.bool (a.o 5)) (mt8 (mt8 (mt8 mh)))
  have ca6 := H.cell (w.heap.size) 6 (.bool (a.o 6)) (mt8 (mt8 (mt8 (mt1 mh))))
  have ca7 := H.cell (w.heap.size) 7 (.slice aRa a.nr cRa) (mt8 (mt8 (mt8 (mt1 (mt1 mh)))))
  have ca8 := H.cell (w.heap.size) 8 (.slice aDa a.nd cDa) (mt8 (mt8 (mt8 (mt1 (mt1 (mt1 mh))))))
  have la := H.lt (w.heap.size) 0 (.bool (a.o 0)) (mt8 (mt8 (mt1 (mt1 (mt1 mh)))))
  have cb0 := H.cell (w.heap.size + 1) 0 (.bool (b.o 0)) (mt1 mh)
  have cb1 := H.cell (w.heap.size + 1) 1 (.bool (b.o 1)) (mt1 (mt1 mh))
  have cb2 := H.cell (w.heap.size + 1) 2 (.bool (b.o 2)) (mt1 (mt1 (mt1 mh)))
  have cb3 := H.cell (w.heap.size + 1) 3 (.bool (b.o 3)) (mt1 (mt1 (mt1 (mt1 mh))))
  have cb4 := H.cell (w.heap.size + 1) 4 (.bool (b.o 4)) (mt1 (mt1 (mt1 (mt1 (mt1 mh)))))
  have cb5 := H.cell (w.heap.size + 1) 5 (.bool (b.o 5)) (mt1 (mt1 (mt1 (mt1 (mt1 (mt1 mh))))))
  have cb6 := H.cell (w.heap.size + 1) 6 (.bool (b.o 6)) (mt1 (mt1 (mt1 (mt1 (mt1 (mt1 (mt1 mh)))))))
  have cb7 := H.cell (w.heap.size + 1) 7 (.slice aRb b.nr cRb) (mt8 mh)
  have cb8 := H.cell (w.heap.size + 1) 8 (.slice aDb b.nd cDb) (mt8 (mt1 mh))
  have lb := H.lt (w.heap.size + 1) 0 (.bool (b.o 0)) (mt1 mh)
  go_wp2_with fail
  clear ca0 ca1 ca2 ca3 ca4 ca5 ca6 ca7 ca8 la cb0 cb1 cb2 cb3 cb4 cb5 cb6 cb7 cb8 lb
  replace H := (H.box_9 (w6.heap.size) (.bool (a.o 0 || b.o 0)) (.bool (a.o 1 || b.o 1)) (.bool (a.o 2 || b.o 2)) (.bool (a.o 3 || b.o 3)) (.bool (a.o 4 || b.o 4)) (.bool (a.o 5 || b.o 5)) (.bool (a.o 6 || b.o 6)) (.slice aRx (a.un b).nr cRx) (.slice aDx (a.un b).nd cDx) 26 rfl)
  (with_reducible refine (quy K b aRb cRb aDb cDb a aRa cRa aDa cDa _ (H.factsV (mt32 (mt8 (mt8 (mt8 (mt1 mh)))))) EB.out EA.out MB.out MA.out (H.cal (mt32 (mt8 (mt8 (mt1 (mt1 (mt1 (mt1 (mt1 (mt1 (mt1 mh))))))))))) (H.cal (mt32 (mt8 (mt8 (mt8 mh))))) MY.out).mono ?_)
  rintro e w7 ⟨aRy, cRy, aDy, cDy, rfl, hC, hb⟩
  replace H := H.below hb
  clear hb
  replace H := H.add (f := calF (b.un a) aRy cRy aDy cDy) hC
  clear hC
  have ca0 := H.cell (w.heap.size) 0 (.bool (a.o 0)) (mt32 (mt1 (mt1 (mt1 (mt1 (mt1 (mt1 mh)))))))
  have ca1 := H.cell (w.heap.size) 1 (.bool (a.o 1)) (mt32 (mt1 (mt1 (mt1 (mt1 (mt1 (mt1 (mt1 mh))))))))
  have ca2 := H.cell (w.heap.size) 2 (.bool (a.o 2)) (mt32 (mt8 mh))
  have ca3 := H.cell (w.heap.size) 3 (.bool (a.o 3)) (mt32 (mt8 (mt1 mh)))
  have ca4 := H.cell (w.heap.size) 4 (.bool (a.o 4)) (mt32 (mt8 (mt1 (mt1 mh))))
  have ca5 := H.cell (w.heap.size) 5 (.bool (a.o 5)) (mt32 (mt8 (mt1 (mt1 (mt1 mh)))))
  have ca6 := H.cell (w.heap.size) 6 (.bool (a.o 6)) (mt32 (mt8 (mt1 (mt1 (mt1 (mt1 mh))))))
  have ca7 := H.cell (w.heap.size) 7 (.slice aRa a.nr cRa) (mt32 (mt8 (mt1 (mt1 (mt1 (mt1 (mt1 mh)))))))
  have ca8 := H.cell (w.heap.size) 8 (.slice aDa a.nd cDa) (mt32 (mt8 (mt1 (mt1 (mt1 (mt1 (mt1 (mt1 mh))))))))
  have la := H.lt (w.heap.size) 0 (.bool (a.o 0)) (mt32 (mt1 (mt1 (mt1 (mt1 (mt1 (mt1 mh)))))))
  go_wp2_with fail
  clear ca0 ca1 ca2 ca3 ca4 ca5 ca6 ca7 ca8 la
  replace H := (H.box_9 (w7.heap.size) (.bool (b.o 0 || a.o 0)) (.bool (b.o 1 || a.o 1)) (.bool (b.o 2 || a.o 2)) (.bool (b.o 3 || a.o 3)) (.bool (b.o 4 || a.o 4)) (.bool (b.o 5 || a.o 5)) (.bool (b.o 6 || a.o 6)) (.slice aRy (b.un a).nr cRy) (.slice aDy (b.un a).nd cDy) 26 rfl)
  (with_reducible refine (quz K a aRa cRa aDa cDa _ (H.factsV (mt32 (mt32 (mt8 (mt1 (mt1 (mt1 (mt1 mh)))))))) EA.out MA.out (H.cal (mt32 (mt32 (mt8 (mt1 (mt1 (mt1 mh))))))) MZ.out).mono ?_)
  rintro e w8 ⟨aRz, cRz, aDz, cDz, rfl, hC, hb⟩
  replace H := H.below hb
  clear hb
  replace H := H.add (f := calF (a.un a) aRz cRz aDz cDz) hC
  clear hC
  have ca0 := H.cell (w.heap.size) 0 (.bool (a.o 0)) (mt32 (mt8 (mt8 (mt8 (mt1 mh)))))
  have ca1 := H.cell (w.heap.size) 1 (.bool (a.o 1)) (mt32 (mt8 (mt8 (mt8 (mt1 (mt1 mh))))))
  have ca2 := H.cell (w.heap.size) 2 (.bool (a.o 2)) (mt32 (mt8 (mt8 (mt8 (mt1 (mt1 (mt1 mh)))))))
  have ca3 := H.cell (w.heap.size) 3 (.bool (a.o 3)) (mt32 (mt8 (mt8 (mt8 (mt1 (mt1 (mt1 (mt1 mh))))))))
  have ca4 := H.cell (w.heap.size) 4 (.bool (a.o 4)) (mt32 (mt8 (mt8 (mt8 (mt1 (mt1 (mt1 (mt1 (mt1 mh)))))))))
  have ca5 := H.cell (w.heap.size) 5 (.bool (a.o 5)) (mt32 (mt8 (mt8 (mt8 (mt1 (mt1 (mt1 (mt1 (mt1 (mt1 mh))))))))))
  have ca6 := H.cell (w.heap.size) 6 (.bool (a.o 6)) (mt32 (mt8 (mt8 (mt8 (mt1 (mt1 (mt1 (mt1 (mt1 (mt1 (mt1 mh)))))))))))
  have ca7 := H.cell (w.heap.size) 7 (.slice aRa a.nr cRa) (mt32 (mt32 mh))
  have ca8 := H.cell (w.heap.size) 8 (.slice aDa a.nd cDa) (mt32 (mt32 (mt1 mh)))
  have la := H.lt (w.heap.size) 0 (.bool (a.o 0)) (mt32 (mt8 (mt8 (mt8 (mt1 mh)))))
  go_wp2_with fail
  clear ca0 ca1 ca2 ca3 ca4 ca5 ca6 ca7 ca8 la
  replace H := (H.box_9 (w8.heap.size) (.bool (a.o 0)) (.bool (a.o 1)) (.bool (a.o 2)) (.bool (a.o 3)) (.bool (a.o 4)) (.bool (a.o 5)) (.bool (a.o 6)) (.slice aRz (a.un a).nr cRz) (.slice aDz (a.un a).nd cDz) 26 rfl)
  have KS : Hid (∀ w' : World, Held w [.cell (w8.heap.size) 0 (.bool (a.o 0)), .cell (w8.heap.size) 1 (.bool (a.o 1)), .cell (w8.heap.size) 2 (.bool (a.o 2)), .cell (w8.heap.size) 3 (.bool (a.o 3)), .cell (w8.heap.size) 4 (.bool (a.o 4)), .cell (w8.heap.size) 5 (.bool (a.o 5)), .cell (w8.heap.size) 6 (.bool (a.o 6)), .cell (w8.heap.size) 7 (.slice aRz (a.un a).nr cRz), .cell (w8.heap.size) 8 (.slice aDz (a.un a).nd cDz), .free (w8.heap.size) 0, .free (w8.heap.size) 1, .free (w8.heap.size) 2, .free (w8.heap.size) 3, .free (w8.heap.size) 4, .free (w8.heap.size) 5, .free (w8.heap.size) 6, .free (w8.heap.size) 7, .free (w8.heap.size) 8, calF (a.un a) aRz cRz aDz cDz, .cell (w7.heap.size) 0 (.bool (b.o 0 || a.o 0)), .cell (w7.heap.size) 1 (.bool (b.o 1 || a.o 1)), .cell (w7.heap.size) 2 (.bool (b.o 2 || a.o 2)), .cell (w7.heap.size) 3 (.bool (b.o 3 || a.o 3)), .cell (w7.heap.size) 4 (.bool (b.o 4 || a.o 4)), .cell (w7.heap.size) 5 (.bool (b.o 5 || a.o 5)), .cell (w7.heap.size) 6 (.bool (b.o 6 || a.o 6)), .cell (w7.heap.size) 7 (.slice aRy (b.un a).nr cRy), .cell (w7.heap.size) 8 (.slice aDy (b.un a).nd cDy), .free (w7.heap.size) 0, .free (w7.heap.size) 1, .free (w7.heap.size) 2, .free (w7.heap.size) 3, .free (w7.heap.size) 4, .free (w7.heap.size) 5, .free (w7.heap.size) 6, .free (w7.heap.size) 7, .free (w7.heap.size) 8, calF (b.un a) aRy cRy aDy cDy, .cell (w6.heap.size) 0 (.bool (a.o 0 || b.o 0)), .cell (w6.heap.size) 1 (.bool (a.o 1 || b.o 1)), .cell (w6.heap.size) 2 (.bool (a.o 2 || b.o 2)), .cell (w6.heap.size) 3 (.bool (a.o 3 || b.o 3)), .cell (w6.heap.size) 4 (.bool (a.o 4 || b.o 4)), .cell (w6.heap.size) 5 (.bool (a.o 5 || b.o 5)), .cell (w6.heap.size) 6 (.bool (a.o 6 || b.o 6)), .cell (w6.heap.size) 7 (.slice aRx (a.un b).nr cRx), .cell (w6.heap.size) 8 (.slice aDx (a.un b).nd cDx), .free (w6.heap.size) 0, .free (w6.heap.size) 1, .free (w6.heap.size) 2, .free (w6.heap.size) 3, .free (w6.heap.size) 4, .free (w6.heap.size) 5, .free (w6.heap.size) 6, .free (w6.heap.size) 7, .free (w6.heap.size) 8, calF (a.un b) aRx cRx aDx cDx, .cell (w.heap.size + 1) 0 (.bool (b.o 0)), .cell (w.heap.size + 1) 1 (.bool (b.o 1)), .cell (w.heap.size + 1) 2 (.bool (b.o 2)), .cell (w.heap.size + 1) 3 (.bool (b.o 3)), .cell (w.heap.size + 1) 4 (.bool (b.o 4)), .cell (w.heap.size + 1) 5 (.bool (b.o 5)), .cell (w.heap.size + 1) 6 (.bool (b.o 6)), .cell (w.heap.size + 1) 7 (.slice aRb b.nr cRb), .cell (w.heap.size + 1) 8 (.slice aDb b.nd cDb), .free (w.heap.size + 1) 0, .free (w.heap.size + 1) 1, .free (w.heap.size + 1) 2, .free (w.heap.size + 1) 3, .free (w.heap.size + 1) 4, .free (w.heap.size + 1) 5, .free (w.heap.size + 1) 6, .free (w.heap.size + 1) 7, .free (w.heap.size + 1) 8, .cell (w.heap.size) 0 (.bool (a.o 0)), .cell (w.heap.size) 1 (.bool (a.o 1)), .cell (w.heap.size) 2 (.bool (a.o 2)), .cell (w.heap.size) 3 (.bool (a.o 3)), .cell (w.heap.size) 4 (.bool (a.o 4)), .cell (w.heap.size) 5 (.bool (a.o 5)), .cell (w.heap.size) 6 (.bool (a.o 6)), .cell (w.heap.size) 7 (.slice aRa a.nr cRa), .cell (w.heap.size) 8 (.slice aDa a.nd cDa), .free (w.heap.size) 0, .free (w.heap.size) 1, .free (w.heap.size) 2, .free (w.heap.size) 3, .free (w.heap.size) 4, .free (w.heap.size) 5, .free (w.heap.size) 6, .free (w.heap.size) 7, .free (w.heap.size) 8, calF b aRb cRb aDb cDb, calF a aRa cRa aDa cDa, factsVF] w' → w'.cell? ⟨w8.heap.size, 0, none⟩ = some (.bool (a.o 0)) ∧ w'.cell? ⟨w8.heap.size, 1, none⟩ = some (.bool (a.o 1)) ∧ w'.cell? ⟨w8.heap.size, 2, none⟩ = some (.bool (a.o 2)) ∧ w'.cell? ⟨w8.heap.size, 3, none⟩ = some (.bool (a.o 3)) ∧ w'.cell? ⟨w8.heap.size, 4, none⟩ = some (.bool (a.o 4)) ∧ w'.cell? ⟨w8.heap.size, 5, none⟩ = some (.bool (a.o 5)) ∧ w'.cell? ⟨w8.heap.size, 6, none⟩ = some (.bool (a.o 6)) ∧ w'.cell? ⟨w8.heap.size, 7, none⟩ = some (.slice aRz (a.un a).nr cRz) ∧ w'.cell? ⟨w8.heap.size, 8, none⟩ = some (.slice aDz (a.un a).nd cDz) ∧ w'.cell? ⟨w.heap.size, 0, none⟩ = some (.bool (a.o 0)) ∧ w'.cell? ⟨w.heap.size, 1, none⟩ = some (.bool (a.o 1)) ∧ w'.cell? ⟨w.heap.size, 2, none⟩ = some (.bool (a.o 2)) ∧ w'.cell? ⟨w.heap.size, 3, none⟩ = some (.bool (a.o 3)) ∧ w'.cell? ⟨w.heap.size, 4, none⟩ = some (.bool (a.o 4)) ∧ w'.cell? ⟨w.heap.size, 5, none⟩ = some (.bool (a.o 5)) ∧ w'.cell? ⟨w.heap.size, 6, none⟩ = some (.bool (a.o 6)) ∧ w'.cell? ⟨w.heap.size, 7, none⟩ = some (.slice aRa a.nr cRa) ∧ w'.cell? ⟨w.heap.size, 8, none⟩ = some (.slice aDa a.nd cDa) ∧ Held w [.cell (w8.heap.size) 0 (.bool (a.o 0)), .cell (w8.heap.size) 1 (.bool (a.o 1)), .cell (w8.heap.size) 2 (.bool (a.o 2)), .cell (w8.heap.size) 3 (.bool (a.o 3)), .cell (w8.heap.size) 4 (.bool (a.o 4)), .cell (w8.heap.size) 5 (.bool (a.o 5)), .cell (w8.heap.size) 6 (.bool (a.o 6)), .cell (w8.heap.size) 7 (.slice aRz (a.un a).nr cRz), .cell (w8.heap.size) 8 (.slice aDz (a.un a).nd cDz), .free (w8.heap.size) 0, .free (w8.heap.size) 1, .free (w8.heap.size) 2, .free (w8.heap.size) 3, .free (w8.heap.size) 4, .free (w8.heap.size) 5, .free (w8.heap.size) 6, .free (w8.heap.size) 7, .free (w8.heap.size) 8, calF (a.un a) aRz cRz aDz cDz, .cell (w7.heap.size) 0 (.bool (b.o 0 || a.o 0)), .cell (w7.heap.size) 1 (.bool (b.o 1 || a.o 1)), .cell (w7.heap.size) 2 (.bool (b.o 2 || a.o 2)), .cell (w7.heap.size) 3 (.bool (b.o 3 || a.o 3)), .cell (w7.heap.size) 4 (.bool (b.o 4 || a.o 4)), .cell (w7.heap.size) 5 (.bool (b.o 5 || a.o 5)), .cell (w7.heap.size) 6 (.bool (b.o 6 || a.o 6)), .cell (w7.heap.size) 7 (.slice aRy (b.un a).nr cRy), .cell (w7.heap.size) 8 (.slice aDy (b.un a).nd cDy), .free (w7.heap.size) 0, .free (w7.heap.size) 1, .free (w7.heap.size) 2, .free (w7.heap.size) 3, .free (w7.heap.size) 4, .free (w7.heap.size) 5, .free (w7.heap.size) 6, .free (w7.heap.size) 7, .free (w7.heap.size) 8, calF (b.un a) aRy cRy aDy cDy, .cell (w6.heap.size) 0 (.bool (a.o 0 || b.o 0)), .cell (w6.heap.size) 1 (.bool (a.o 1 || b.o 1)), .cell (w6.heap.size) 2 (.bool (a.o 2 || b.o 2)), .cell (w6.heap.size) 3 (.bool (a.o 3 || b.o 3)), .cell (w6.heap.size) 4 (.bool (a.o 4 || b.o 4)), .cell (w6.heap.size) 5 (.bool (a.o 5 || b.o 5)), .cell (w6.heap.size) 6 (.bool (a.o 6 || b.o 6)), .cell (w6.heap.size) 7 (.slice aRx (a.un b).nr cRx), .cell (w6.heap.size) 8 (.slice aDx (a.un b).nd cDx), .free (w6.heap.size) 0, .free (w6.heap.size) 1, .free (w6.heap.size) 2, .free (w6.heap.size) 3, .free (w6.heap.size) 4, .free (w6.heap.size) 5, .free (w6.heap.size) 6, .free (w6.heap.size) 7, .free (w6.heap.size) 8, calF (a.un b) aRx cRx aDx cDx, .cell (w.heap.size + 1) 0 (.bool (b.o 0)), .cell (w.heap.size + 1) 1 (.bool (b.o 1)), .cell (w.heap.size + 1) 2 (.bool (b.o 2)), .cell (w.heap.size + 1) 3 (.bool (b.o 3)), .cell (w.heap.size + 1) 4 (.bool (b.o 4)), .cell (w.heap.size + 1) 5 (.bool (b.o 5)), .cell (w.heap.size + 1) 6 (.bool (b.o 6)), .cell (w.heap.size + 1) 7 (.slice aRb b.nr cRb), .cell (w.heap.size + 1) 8 (.slice aDb b.nd cDb), .free (w.heap.size + 1) 0, .free (w.heap.size + 1) 1, .free (w.heap.size + 1) 2, .free (w.heap.size + 1) 3, .free (w.heap.size + 1) 4, .free (w.heap.size + 1) 5, .free (w.heap.size + 1) 6, .free (w.heap.size + 1) 7, .free (w.heap.size + 1) 8, .cell (w.heap.size) 0 (.bool (a.o 0)), .cell (w.heap.size) 1 (.bool (a.o 1)), .cell (w.heap.size) 2 (.bool (a.o 2)), .cell (w.heap.size) 3 (.bool (a.o 3)), .cell (w.heap.size) 4 (.bool (a.o 4)), .cell (w.heap.size) 5 (.bool (a.o 5)), .cell (w.heap.size) 6 (.bool (a.o 6)), .cell (w.heap.size) 7 (.slice aRa a.nr cRa), .cell (w.heap.size) 8 (.slice aDa a.nd cDa), .free (w.heap.size) 0, .free (w.heap.size) 1, .free (w.heap.size) 2, .free (w.heap.size) 3, .free (w.heap.size) 4, .free (w.heap.size) 5, .free (w.heap.size) 6, .free (w.heap.size) 7, .free (w.heap.size) 8, calF b aRb cRb aDb cDb, calF a aRa cRa aDa cDa, factsVF] w') := Lib.hid (fun _ h => ⟨h.cell (w8.heap.size) 0 (.bool (a.o 0)) mh, h.cell (w8.heap.size) 1 (.bool (a.o 1)) (mt1 mh), h.cell (w8.heap.size) 2 (.bool (a.o 2)) (mt1 (mt1 mh)), h.cell (w8.heap.size) 3 (.bool (a.o 3)) (mt1 (mt1 (mt1 mh))), h.cell (w8.heap.size) 4 (.bool (a.o 4)) (mt1 (mt1 (mt1 (mt1 mh)))), h.cell (w8.heap.size) 5 (.bool (a.o 5)) (mt1 (mt1 (mt1 (mt1 (mt1 mh))))), h.cell (w8.heap.size) 6 (.bool (a.o 6)) (mt1 (mt1 (mt1 (mt1 (mt1 (mt1 mh)))))), h.cell (w8.heap.size) 7 (.slice aRz (a.un a).nr cRz) (mt1 (mt1 (mt1 (mt1 (mt1 (mt1 (mt1 mh))))))), h.cell (w8.heap.size) 8 (.slice aDz (a.un a).nd cDz) (mt8 mh), h.cell (w.heap.size) 0 (.bool (a.o 0)) (mt32 (mt32 (mt8 (mt1 (mt1 (mt1 mh)))))), h.cell (w.heap.size) 1 (.bool (a.o 1)) (mt32 (mt32 (mt8 (mt1 (mt1 (mt1 (mt1 mh))))))), h.cell (w.heap.size) 2 (.bool (a.o 2)) (mt32 (mt32 (mt8 (mt1 (mt1 (mt1 (mt1 (mt1 mh)))))))), h.cell (w.heap.size) 3 (.bool (a.o 3)) (mt32 (mt32 (mt8 (mt1 (mt1 (mt1 (mt1 (mt1 (mt1 mh))))))))), h.cell (w.heap.size) 4 (.bool (a.o 4)) (mt32 (mt32 (mt8 (mt1 (mt1 (mt1 (mt1 (mt1 (mt1 (mt1 mh)))))))))), h.cell (w.heap.size) 5 (.bool (a.o 5)) (mt32 (mt32 (mt8 (mt8 mh)))), h.cell (w.heap.size) 6 (.bool (a.o 6)) (mt32 (mt32 (mt8 (mt8 (mt1 mh))))), h.cell (w.heap.size) 7 (.slice aRa a.nr cRa) (mt32 (mt32 (mt8 (mt8 (mt1 (mt1 mh)))))), h.cell (w.heap.size) 8 (.slice aDa a.nd cDa) (mt32 (mt32 (mt8 (mt8 (mt1 (mt1 (mt1 mh))))))), h⟩)
  have KH : Hid (∀ w' : World, w'.cell? ⟨w8.heap.size, 0, none⟩ = some (.bool (a.o 0)) ∧ w'.cell? ⟨w8.heap.size, 1, none⟩ = some (.bool (a.o 1)) ∧ w'.cell? ⟨w8.heap.size, 2, none⟩ = some (.bool (a.o 2)) ∧ w'.cell? ⟨w8.heap.size, 3, none⟩ = some (.bool (a.o 3)) ∧ w'.cell? ⟨w8.heap.size, 4, none⟩ = some (.bool (a.o 4)) ∧ w'.cell? ⟨w8.heap.size, 5, none⟩ = some (.bool (a.o 5)) ∧ w'.cell? ⟨w8.heap.size, 6, none⟩ = some (.bool (a.o 6)) ∧ w'.cell? ⟨w8.heap.size, 7, none⟩ = some (.slice aRz (a.un a).nr cRz) ∧ w'.cell? ⟨w8.heap.size, 8, none⟩ = some (.slice aDz (a.un a).nd cDz) ∧ w'.cell? ⟨w.heap.size, 0, none⟩ = some (.bool (a.o 0)) ∧ w'.cell? ⟨w.heap.size, 1, none⟩ = some (.bool (a.o 1)) ∧ w'.cell? ⟨w.heap.size, 2, none⟩ = some (.bool (a.o 2)) ∧ w'.cell? ⟨w.heap.size, 3, none⟩ = some (.bool (a.o 3)) ∧ w'.cell? ⟨w.heap.size, 4, none⟩ = some (.bool (a.o 4)) ∧ w'.cell? ⟨w.heap.size, 5, none⟩ = some (.bool (a.o 5)) ∧ w'.cell? ⟨w.heap.size, 6, none⟩ = some (.bool (a.o 6)) ∧ w'.cell? ⟨w.heap.size, 7, none⟩ = some (.slice aRa a.nr cRa) ∧ w'.cell? ⟨w.heap.size, 8, none⟩ = some (.slice aDa a.nd cDa) ∧ Held w [.cell (w8.heap.size) 0 (.bool (a.o 0)), .cell (w8.heap.size) 1 (.bool (a.o 1)), .cell (w8.heap.size) 2 (.bool (a.o 2)), .cell (w8.heap.size) 3 (.bool (a.o 3)), .cell (w8.heap.size) 4 (.bool (a.o 4)), .cell (w8.heap.size) 5 (.bool (a.o 5)), .cell (w8.heap.size) 6 (.bool (a.o 6)), .cell (w8.heap.size) 7 (.slice aRz (a.un a).nr cRz), .cell (w8.heap.size) 8 (.slice aDz (a.un a).nd cDz), .free (w8.heap.size) 0, .free (w8.heap.size) 1, .free (w8.heap.size) 2, .free (w8.heap.size) 3, .free (w8.heap.size) 4, .free (w8.heap.size) 5, .free (w8.heap.size) 6, .free (w8.heap.size) 7, .free (w8.heap.size) 8, calF (a.un a) aRz cRz aDz cDz, .cell (w7.heap.size) 0 (.bool (b.o 0 || a.o 0)), .cell (w7.heap.size) 1 (.bool (b.o 1 || a.o 1)), .cell (w7.heap.size) 2 (.bool (b.o 2 || a.o 2)), .cell (w7.heap.size) 3 (.bool (b.o 3 || a.o 3)), .cell (w7.heap.size) 4 (.bool (b.o 4 || a.o 4)), .cell (w7.heap.size) 5 (.bool (b.o 5 || a.o 5)), .cell (w7.heap.size) 6 (.bool (b.o 6 || a.o 6)), .cell (w7.heap.size) 7 (.slice aRy (b.un a).nr cRy), .cell (w7.heap.size) 8 (.slice aDy (b.un a).nd cDy), .free (w7.heap.size) 0, .free (w7.heap.size) 1, .free (w7.heap.size) 2, .free (w7.heap.size) 3, .free (w7.heap.size) 4, .free (w7.heap.size) 5, .free (w7.heap.size) 6, .free (w7.heap.size) 7, .free (w7.heap.size) 8, calF (b.un a) aRy cRy aDy cDy, .cell (w6.heap.size) 0 (.bool (a.o 0 || b.o 0)), .cell (w6.heap.size) 1 (.bool (a.o 1 || b.o 1)), .cell (w6.heap.size) 2 (.bool (a.o 2 || b.o 2)), .cell (w6.heap.size) 3 (.bool (a.o 3 || b.o 3)), .cell (w6.heap.size) 4 (.bool (a.o 4 || b.o 4)), .cell (w6.heap.size) 5 (.bool (a.o 5 || b.o 5)), .cell (w6.heap.size) 6 (.bool (a.o 6 || b.o 6)), .cell (w6.heap.size) 7 (.slice aRx (a.un b).nr cRx), .cell (w6.heap.size) 8 (.slice aDx (a.un b).nd cDx), .free (w6.heap.size) 0, .free (w6.heap.size) 1, .free (w6.heap.size) 2, .free (w6.heap.size) 3, .free (w6.heap.size) 4, .free (w6.heap.size) 5, .free (w6.heap.size) 6, .free (w6.heap.size) 7, .free (w6.heap.size) 8, calF (a.un b) aRx cRx aDx cDx, .cell (w.heap.size + 1) 0 (.bool (b.o 0)), .cell (w.heap.size + 1) 1 (.bool (b.o 1)), .cell (w.heap.size + 1) 2 (.bool (b.o 2)), .cell (w.heap.size + 1) 3 (.bool (b.o 3)), .cell (w.heap.size + 1) 4 (.bool (b.o 4)), .cell (w.heap.size + 1) 5 (.bool (b.o 5)), .cell (w.heap.size + 1) 6 (.bool (b.o 6)), .cell (w.heap.size + 1) 7 (.slice aRb b.nr cRb), .cell (w.heap.size + 1) 8 (.slice aDb b.nd cDb), .free (w.heap.size + 1) 0, .free (w.heap.size + 1) 1, .free (w.heap.size + 1) 2, .free (w.heap.size + 1) 3, .free (w.heap.size + 1) 4, .free (w.heap.size + 1) 5, .free (w.heap.size + 1) 6, .free (w.heap.size + 1) 7, .free (w.heap.size + 1) 8, .cell (w.heap.size) 0 (.bool (a.o 0)), .cell (w.heap.size) 1 (.bool (a.o 1)), .cell (w.heap.size) 2 (.bool (a.o 2)), .cell (w.heap.size) 3 (.bool (a.o 3)), .cell (w.heap.size) 4 (.bool (a.o 4)), .cell (w.heap.size) 5 (.bool (a.o 5)), .cell (w.heap.size) 6 (.bool (a.o 6)), .cell (w.heap.size) 7 (.slice aRa a.nr cRa), .cell (w.heap.size) 8 (.slice aDa a.nd cDa), .free (w.heap.size) 0, .free (w.heap.size) 1, .free (w.heap.size) 2, .free (w.heap.size) 3, .free (w.heap.size) 4, .free (w.heap.size) 5, .free (w.heap.size) 6, .free (w.heap.size) 7, .free (w.heap.size) 8, calF b aRb cRb aDb cDb, calF a aRa cRa aDa cDa, factsVF] w' → Held w [.cell (w8.heap.size) 0 (.bool (a.o 0)), .cell (w8.heap.size) 1 (.bool (a.o 1)), .cell (w8.heap.size) 2 (.bool (a.o 2)), .cell (w8.heap.size) 3 (.bool (a.o 3)), .cell (w8.heap.size) 4 (.bool (a.o 4)), .cell (w8.heap.size) 5 (.bool (a.o 5)), .cell (w8.heap.size) 6 (.bool (a.o 6)), .cell (w8.heap.size) 7 (.slice aRz (a.un a).nr cRz), .cell (w8.heap.size) 8 (.slice aDz (a.un a).nd cDz), .free (w8.heap.size) 0, .free (w8.heap.size) 1, .free (w8.heap.size) 2, .free (w8.heap.size) 3, .free (w8.heap.size) 4, .free (w8.heap.size) 5, .free (w8.heap.size) 6, .free (w8.heap.size) 7, .free (w8.heap.size) 8, calF (a.un a) aRz cRz aDz cDz, .cell (w7.heap.size) 0 (.bool (b.o 0 || a.o 0)), .cell (w7.heap.size) 1 (.bool (b.o 1 || a.o 1)), .cell (w7.heap.size) 2 (.bool (b.o 2 || a.o 2)), .cell (w7.heap.size) 3 (.bool (b.o 3 || a.o 3)), .cell (w7.heap.size) 4 (.bool (b.o 4 || a.o 4)), .cell (w7.heap.size) 5 (.bool (b.o 5 || a.o 5)), .cell (w7.heap.size) 6 (.bool (b.o 6 || a.o 6)), .cell (w7.heap.size) 7 (.slice aRy (b.un a).nr cRy), .cell (w7.heap.size) 8 (.slice aDy (b.un a).nd cDy), .free (w7.heap.size) 0, .free (w7.heap.size) 1, .free (w7.heap.size) 2, .free (w7.heap.size) 3, .free (w7.heap.size) 4, .free (w7.heap.size) 5, .free (w7.heap.size) 6, .free (w7.heap.size) 7, .free (w7.heap.size) 8, calF (b.un a) aRy cRy aDy cDy, .cell (w6.heap.size) 0 (.bool (a.o 0 || b.o 0)), .cell (w6.heap.size) 1 (.bool (a.o 1 || b.o 1)), .cell (w6.heap.size) 2 (.bool (a.o 2 || b.o 2)), .cell (w6.heap.size) 3 (.bool (a.o 3 || b.o 3)), .cell (w6.heap.size) 4 (.bool (a.o 4 || b.o 4)), .cell (w6.heap.size) 5 (.bool (a.o 5 || b.o 5)), .cell (w6.heap.size) 6 (.bool (a.o 6 || b.o 6)), .cell (w6.heap.size) 7 (.slice aRx (a.un b).nr cRx), .cell (w6.heap.size) 8 (.slice aDx (a.un b).nd cDx), .free (w6.heap.size) 0, .free (w6.heap.size) 1, .free (w6.heap.size) 2, .free (w6.heap.size) 3, .free (w6.heap.size) 4, .free (w6.heap.size) 5, .free (w6.heap.size) 6, .free (w6.heap.size) 7, .free (w6.heap.size) 8, calF (a.un b) aRx cRx aDx cDx, .cell (w.heap.size + 1) 0 (.bool (b.o 0)), .cell (w.heap.size + 1) 1 (.bool (b.o 1)), .cell (w.heap.size + 1) 2 (.bool (b.o 2)), .cell (w.heap.size + 1) 3 (.bool (b.o 3)), .cell (w.heap.size + 1) 4 (.bool (b.o 4)), .cell (w.heap.size + 1) 5 (.bool (b.o 5)), .cell (w.heap.size + 1) 6 (.bool (b.o 6)), .cell (w.heap.size + 1) 7 (.slice aRb b.nr cRb), .cell (w.heap.size + 1) 8 (.slice aDb b.nd cDb), .free (w.heap.size + 1) 0, .free (w.heap.size + 1) 1, .free (w.heap.size + 1) 2, .free (w.heap.size + 1) 3, .free (w.heap.size + 1) 4, .free (w.heap.size + 1) 5, .free (w.heap.size + 1) 6, .free (w.heap.size + 1) 7, .free (w.heap.size + 1) 8, .cell (w.heap.size) 0 (.bool (a.o 0)), .cell (w.heap.size) 1 (.bool (a.o 1)), .cell (w.heap.size) 2 (.bool (a.o 2)), .cell (w.heap.size) 3 (.bool (a.o 3)), .cell (w.heap.size) 4 (.bool (a.o 4)), .cell (w.heap.size) 5 (.bool (a.o 5)), .cell (w.heap.size) 6 (.bool (a.o 6)), .cell (w.heap.size) 7 (.slice aRa a.nr cRa), .cell (w.heap.size) 8 (.slice aDa a.nd cDa), .free (w.heap.size) 0, .free (w.heap.size) 1, .free (w.heap.size) 2, .free (w.heap.size) 3, .free (w.heap.size) 4, .free (w.heap.size) 5, .free (w.heap.size) 6, .free (w.heap.size) 7, .free (w.heap.size) 8, calF b aRb cRb aDb cDb, calF a aRa cRa aDa cDa, factsVF] w') := Lib.hid (fun _ h => h.2.2.2.2.2.2.2.2.2.2.2.2.2.2.2.2.2.2)
  refine wp_region_held_drew (S := fun w' => w'.cell? ⟨w8.heap.size, 0, none⟩ = some (.bool (a.o 0)) ∧ w'.cell? ⟨w8.heap.size, 1, none⟩ = some (.bool (a.o 1)) ∧ w'.cell? ⟨w8.heap.size, 2, none⟩ = some (.bool (a.o 2)) ∧ w'.cell? ⟨w8.heap.size, 3, none⟩ = some (.bool (a.o 3)) ∧ w'.cell? ⟨w8.heap.size, 4, none⟩ = some (.bool (a.o 4)) ∧ w'.cell? ⟨w8.heap.size, 5, none⟩ = some (.bool (a.o 5)) ∧ w'.cell? ⟨w8.heap.size, 6, none⟩ = some (.bool (a.o 6)) ∧ w'.cell? ⟨w8.heap.size, 7, none⟩ = some (.slice aRz (a.un a).nr cRz) ∧ w'.cell? ⟨w8.heap.size, 8, none⟩ = some (.slice aDz (a.un a).nd cDz) ∧ w'.cell? ⟨w.heap.size, 0, none⟩ = some (.bool (a.o 0)) ∧ w'.cell? ⟨w.heap.size, 1, none⟩ = some (.bool (a.o 1)) ∧ w'.cell? ⟨w.heap.size, 2, none⟩ = some (.bool (a.o 2)) ∧ w'.cell? ⟨w.heap.size, 3, none⟩ = some (.bool (a.o 3)) ∧ w'.cell? ⟨w.heap.size, 4, none⟩ = some (.bool (a.o 4)) ∧ w'.cell? ⟨w.heap.size, 5, none⟩ = some (.bool (a.o 5)) ∧ w'.cell? ⟨w.heap.size, 6, none⟩ = some (.bool (a.o 6)) ∧ w'.cell? ⟨w.heap.size, 7, none⟩ = some (.slice aRa a.nr cRa) ∧ w'.cell? ⟨w.heap.size, 8, none⟩ = some (.slice aDa a.nd cDa) ∧ Held w [.cell (w8.heap.size) 0 (.bool (a.o 0)), .cell (w8.heap.size) 1 (.bool (a.o 1)), .cell (w8.heap.size) 2 (.bool (a.o 2)), .cell (w8.heap.size) 3 (.bool (a.o 3)), .cell (w8.heap.size) 4 (.bool (a.o 4)), .cell (w8.heap.size) 5 (.bool (a.o 5)), .cell (w8.heap.size) 6 (.bool (a.o 6)), .cell (w8.heap.size) 7 (.slice aRz (a.un a).nr cRz), .cell (w8.heap.size) 8 (.slice aDz (a.un a).nd cDz), .free (w8.heap.size) 0, .free (w8.heap.size) 1, .free (w8.heap.size) 2, .free (w8.heap.size) 3, .free (w8.heap.size) 4, .free (w8.heap.size) 5, .free (w8.heap.size) 6, .free (w8.heap.size) 7, .free (w8.heap.size) 8, calF (a.un a) aRz cRz aDz cDz, .cell (w7.heap.size) 0 (.bool (b.o 0 || a.o 0)), .cell (w7.heap.size) 1 (.bool (b.o 1 || a.o 1)), .cell (w7.heap.size) 2 (.bool (b.o 2 || a.o 2)), .cell (w7.heap.size) 3 (.bool (b.o 3 || a.o 3)), .cell (w7.heap.size) 4 (.bool (b.o 4 || a.o 4)), .cell (w7.heap.size) 5 (.bool (b.o 5 || a.o 5)), .cell (w7.heap.size) 6 (.bool (b.o 6 || a.o 6)), .cell (w7.heap.size) 7 (.slice aRy (b.un a).nr cRy), .cell (w7.heap.size) 8 (.slice aDy (b.un a).nd cDy), .free (w7.heap.size) 0, .free (w7.heap.size) 1, .free (w7.heap.size) 2, .free (w7.heap.size) 3, .free (w7.heap.size) 4, .free (w7.heap.size) 5, .free (w7.heap.size) 6, .free (w7.heap.size) 7, .free (w7.heap.size) 8, calF (b.un a) aRy cRy aDy cDy, .cell (w6.heap.size) 0 (.bool (a.o 0 || b.o 0)), .cell (w6.heap.size) 1 (.bool (a.o 1 || b.o 1)), .cell (w6.heap.size) 2 (.bool (a.o 2 || b.o 2)), .cell (w6.heap.size) 3 (.bool (a.o 3 || b.o 3)), .cell (w6.heap.size) 4 (.bool (a.o 4 || b.o 4)), .cell (w6.heap.size) 5 (.bool (a.o 5 || b.o 5)), .cell (w6.heap.size) 6 (.bool (a.o 6 || b.o 6)), .cell (w6.heap.size) 7 (.slice aRx (a.un b).nr cRx), .cell (w6.heap.size) 8 (.slice aDx (a.un b).nd cDx), .free (w6.heap.size) 0, .free (w6.heap.size) 1, .free (w6.heap.size) 2, .free (w6.heap.size) 3, .free (w6.heap.size) 4, .free (w6.heap.size) 5, .free (w6.heap.size) 6, .free (w6.heap.size) 7, .free (w6.heap.size) 8, calF (a.un b) aRx cRx aDx cDx, .cell (w.heap.size + 1) 0 (.bool (b.o 0)), .cell (w.heap.size + 1) 1 (.bool (b.o 1)), .cell (w.heap.size + 1) 2 (.bool (b.o 2)), .cell (w.heap.size + 1) 3 (.bool (b.o 3)), .cell (w.heap.size + 1) 4 (.bool (b.o 4)), .cell (w.heap.size + 1) 5 (.bool (b.o 5)), .cell (w.heap.size + 1) 6 (.bool (b.o 6)), .cell (w.heap.size + 1) 7 (.slice aRb b.nr cRb), .cell (w.heap.size + 1) 8 (.slice aDb b.nd cDb), .free (w.heap.size + 1) 0, .free (w.heap.size + 1) 1, .free (w.heap.size + 1) 2, .free (w.heap.size + 1) 3, .free (w.heap.size + 1) 4, .free (w.heap.size + 1) 5, .free (w.heap.size + 1) 6, .free (w.heap.size + 1) 7, .free (w.heap.size + 1) 8, .cell (w.heap.size) 0 (.bool (a.o 0)), .cell (w.heap.size) 1 (.bool (a.o 1)), .cell (w.heap.size) 2 (.bool (a.o 2)), .cell (w.heap.size) 3 (.bool (a.o 3)), .cell (w.heap.size) 4 (.bool (a.o 4)), .cell (w.heap.size) 5 (.bool (a.o 5)), .cell (w.heap.size) 6 (.bool (a.o 6)), .cell (w.heap.size) 7 (.slice aRa a.nr cRa), .cell (w.heap.size) 8 (.slice aDa a.nd cDa), .free (w.heap.size) 0, .free (w.heap.size) 1, .free (w.heap.size) 2, .free (w.heap.size) 3, .free (w.heap.size) 4, .free (w.heap.size) 5, .free (w.heap.size) 6, .free (w.heap.size) 7, .free (w.heap.size) 8, calF b aRb cRb aDb cDb, calF a aRa cRa aDa cDa, factsVF] w') (by kernel_rfl) (KS.out _ H.drew) (fun hHeld => ?_)
  clear H
  refine wpAnyH_take (i := 0) (oi := ⟨some 53, _, _, _, _, _⟩) (v := ?_) rfl (by kernel_rfl) (by kernel_rfl) (by kernel_rfl) (fun _ _ _ h => h) (Or.inl ⟨by rfl, ?_⟩) (by assumption) ?_
  rotate_left
  · intro w hSw; (try dsimp only at hSw); go_simp; try with_reducible rfl
  simp only [Act.put, List.setIfInBounds_toArray, List.set_cons_zero, List.set_cons_succ]
  refine wpAnyH_take (i := 1) (oi := ⟨some 54, _, _, _, _, _⟩) (v := ?_) rfl (by kernel_rfl) (by kernel_rfl) (by kernel_rfl) (fun _ _ _ h => h) (Or.inl ⟨by rfl, ?_⟩) (by assumption) ?_
  rotate_left
  · intro w hSw; (try dsimp only at hSw); go_simp; try with_reducible rfl
  simp only [Act.put, List.setIfInBounds_toArray, List.set_cons_zero, List.set_cons_succ]
  refine wpAnyH_take (i := 2) (oi := ⟨some 55, _, _, _, _, _⟩) (v := ?_) rfl (by kernel_rfl) (by kernel_rfl) (by kernel_rfl) (fun _ _ _ h => h) (Or.inl ⟨by rfl, ?_⟩) (by assumption) ?_
  rotate_left
  · intro w hSw; (try dsimp only at hSw); go_simp; try with_reducible rfl
  simp only [Act.put, List.setIfInBounds_toArray, List.set_cons_zero, List.set_cons_succ]
  refine wpAnyH_take (i := 3) (oi := ⟨some 56, _, _, _, _, _⟩) (v := ?_) rfl (by kernel_rfl) (by kernel_rfl) (by kernel_rfl) (fun _ _ _ h => h) (Or.inl ⟨by rfl, ?_⟩) (by assumption) ?_
  rotate_left
  · intro w hSw; (try dsimp only at hSw); go_simp; try with_reducible rfl
  simp only [Act.put, List.setIfInBounds_toArray, List.set_cons_zero, List.set_cons_succ]
  refine wpAnyH_take (i := 4) (oi := ⟨some 57, _, _, _, _, _⟩) (v := ?_) rfl (by kernel_rfl) (by kernel_rfl) (by kernel_rfl) (fun _ _ _ h => h) (Or.inl ⟨by rfl, ?_⟩) (by assumption) ?_
  rotate_left
  · intro w hSw; (try dsimp only at hSw); go_simp; try with_reducible rfl
  simp only [Act.put, List.setIfInBounds_toArray, List.set_cons_zero, List.set_cons_succ]
  refine wpAnyH_take (i := 5) (oi := ⟨some 58, _, _, _, _, _⟩) (v := ?_) rfl (by kernel_rfl) (by kernel_rfl) (by kernel_rfl) (fun _ _ _ h => h) (Or.inl ⟨by rfl, ?_⟩) (by assumption) ?_
  rotate_left
  · intro w hSw; (try dsimp only at hSw); go_simp; try with_reducible rfl
  simp only [Act.put, List.setIfInBounds_toArray, List.set_cons_zero, List.set_cons_succ]
  refine wpAnyH_take (i := 6) (oi := ⟨some 59, _, _, _, _, _⟩) (v := ?_) rfl (by kernel_rfl) (by kernel_rfl) (by kernel_rfl) (fun _ _ _ h => h) (Or.inl ⟨by rfl, ?_⟩) (by assumption) ?_
  rotate_left
  · intro w hSw; (try dsimp only at hSw); go_simp; try with_reducible rfl
  simp only [Act.put, List.setIfInBounds_toArray, List.set_cons_zero, List.set_cons_succ]
  refine wpAnyH_take (i := 7) (oi := ⟨some 60, _, _, _, _, _⟩) (v := ?_) rfl (by kernel_rfl) (by kernel_rfl) (by kernel_rfl) (fun _ _ _ h => h) (Or.inl ⟨by rfl, ?_⟩) (by assumption) ?_
  rotate_left
  · intro w hSw; (try dsimp only at hSw); go_simp; try with_reducible rfl
  simp only [Act.put, List.setIfInBounds_toArray, List.set_cons_zero, List.set_cons_succ]
  refine wpAnyH_take (i := 8) (oi := ⟨some 61, _, _, _, _, _⟩) (v := ?_) rfl (by kernel_rfl) (by kernel_rfl) (by kernel_rfl) (fun _ _ _ h => h) (Or.inl ⟨by rfl, ?_⟩) (by assumption) ?_
  rotate_left
  · intro w hSw; (try dsimp only at hSw); go_simp; try with_reducible rfl
  simp only [Act.put, List.setIfInBounds_toArray, List.set_cons_zero, List.set_cons_succ]
  refine wpAnyH_take (i := 9) (oi := ⟨some 62, _, _, _, _, _⟩) (v := ?_) rfl (by kernel_rfl) (by kernel_rfl) (by kernel_rfl) (fun _ _ _ h => h) (Or.inl ⟨by rfl, ?_⟩) (by assumption) ?_
  rotate_left
  · intro w hSw; (try dsimp only at hSw); go_simp; try with_reducible rfl
  simp only [Act.put, List.setIfInBounds_toArray, List.set_cons_zero, List.set_cons_succ]
  refine wpAnyH_take (i := 11) (oi := ⟨some 64, _, _, _, _, _⟩) (v := ?_) rfl (by kernel_rfl) (by kernel_rfl) (by kernel_rfl) (fun _ _ _ h => h) (Or.inl ⟨by rfl, ?_⟩) (by assumption) ?_
  rotate_left
  · intro w hSw; (try dsimp only at hSw); go_simp; try with_reducible rfl
  simp only [Act.put, List.setIfInBounds_toArray, List.set_cons_zero, List.set_cons_succ]
  refine wpAnyH_take (i := 12) (oi := ⟨some 65, _, _, _, _, _⟩) (v := ?_) rfl (by kernel_rfl) (by kernel_rfl) (by kernel_rfl) (fun _ _ _ h => h) (Or.inl ⟨by rfl, ?_⟩) (by assumption) ?_
  rotate_left
  · intro w hSw; (try dsimp only at hSw); go_simp; try with_reducible rfl
  simp only [Act.put, List.setIfInBounds_toArray, List.set_cons_zero, List.set_cons_succ]
  refine wpAnyH_ready (rs := [10]) (by kernel_rfl) (by simp) ?_
  refine AllReadyH.cons (o := ⟨some 63, _, _, _, _, _⟩) rfl (fun KK hK => ?_) AllReadyH.nil
  go_simp
  have H := KH.out _ hHeld
  (with_reducible refine (qiz K a aRz cRz aDz cDz n true _ (H.factsV (mt32 (mt32 (mt8 (mt8 (mt8 (mt1 (mt1 (mt1 (mt1 (mt1 (mt1 (mt1 mh))))))))))))) MZ.out (H.cal (mt8 (mt8 (mt1 (mt1 mh))))) ⟨fun _ => HP.out, fun _ => rfl⟩).mono ?_)
  rintro e w' ⟨rfl, hb⟩
  go_wp2_with fail
  refine hK.out _ _ ?_ (fun hNew => ?_)
  · exact KS.out _ (Held.below H hb)
  clear hK KK hHeld H hb
  have hHeld := hNew
  clear hNew
  try simp only [Act.put, List.setIfInBounds_toArray, List.set_cons_zero, List.set_cons_succ]
  refine wpAnyH_ready (rs := [13]) (by kernel_rfl) (by simp) ?_
  refine AllReadyH.cons (o := ⟨some 66, _, _, _, _, _⟩) rfl (fun KK hK => ?_) AllReadyH.nil
  go_simp
  have H := KH.out _ hHeld
  (with_reducible refine (K.is a aRa cRa aDa cDa n true _ (H.factsV (mt32 (mt32 (mt8 (mt8 (mt8 (mt1 (mt1 (mt1 (mt1 (mt1 (mt1 (mt1 mh))))))))))))) MA.out (H.cal (mt32 (mt32 (mt8 (mt8 (mt8 (mt1 (mt1 (mt1 (mt1 (mt1 (mt1 mh)))))))))))) ⟨fun _ => HP.out, fun _ => rfl⟩).mono ?_)
  rintro e w' ⟨rfl, hb⟩
  go_wp2_with fail
  refine hK.out _ _ ?_ (fun hNew => ?_)
  · exact KS.out _ (Held.below H hb)
  clear hK KK hHeld H hb
  have hHeld := hNew
  clear hNew
  try simp only [Act.put, List.setIfInBounds_toArray, List.set_cons_zero, List.set_cons_succ]
  refine wpAnyH_take (i := 14) (oi := ⟨some 67, _, _, _, _, _⟩) (v := ?_) rfl (by kernel_rfl) (by kernel_rfl) (by kernel_rfl) (fun _ _ _ h => h) (Or.inl ⟨by rfl, ?_⟩) (by assumption) ?_
  rotate_left
  · intro w hSw; (try dsimp only at hSw); go_simp; try with_reducible rfl
  simp only [Act.put, List.setIfInBounds_toArray, List.set_cons_zero, List.set_cons_succ]
  refine wpAnyH_take (i := 15) (oi := ⟨some 68, _, _, _, _, _⟩) (v := ?_) rfl (by kernel_rfl) (by kernel_rfl) (by kernel_rfl) (fun _ _ _ h => h) (Or.inl ⟨by rfl, ?_⟩) (by assumption) ?_
  rotate_left
  · intro w hSw; (try dsimp only at hSw); go_simp; try with_reducible rfl
  simp only [Act.put, List.setIfInBounds_toArray, List.set_cons_zero, List.set_cons_succ]
  refine wpAnyH_done (by kernel_rfl) ?_ _
  have H := KH.out _ hHeld
  clear KS KH hHeld
  have ca0 := H.cell (w.heap.size) 0 (.bool (a.o 0)) (mt32 (mt32 (mt8 (mt1 (mt1 (mt1 mh))))))
  have ca1 := H.cell (w.heap.size) 1 (.bool (a.o 1)) (mt32 (mt32 (mt8 (mt1 (mt1 (mt1 (mt1 mh)))))))
  have ca2 := H.cell (w.heap.size) 2 (.bool (a.o 2)) (mt32 (mt32 (mt8 (mt1 (mt1 (mt1 (mt1 (mt1 mh))))))))
  have ca3 := H.cell (w.heap.size) 3 (.bool (a.o 3)) (mt32 (mt32 (mt8 (mt1 (mt1 (mt1 (mt1 (mt1 (mt1 mh)))))))))
  have ca4 := H.cell (w.heap.size) 4 (.bool (a.o 4)) (mt32 (mt32 (mt8 (mt1 (mt1 (mt1 (mt1 (mt1 (mt1 (mt1 mh))))))))))
  have ca5 := H.cell (w.heap.size) 5 (.bool (a.o 5)) (mt32 (mt32 (mt8 (mt8 mh))))
  have ca6 := H.cell (w.heap.size) 6 (.bool (a.o 6)) (mt32 (mt32 (mt8 (mt8 (mt1 mh)))))
  have ca7 := H.cell (w.heap.size) 7 (.slice aRa a.nr cRa) (mt32 (mt32 (mt8 (mt8 (mt1 (mt1 mh))))))
  have ca8 := H.cell (w.heap.size) 8 (.slice aDa a.nd cDa) (mt32 (mt32 (mt8 (mt8 (mt1 (mt1 (mt1 mh)))))))
  have la := H.lt (w.heap.size) 0 (.bool (a.o 0)) (mt32 (mt32 (mt8 (mt1 (mt1 (mt1 mh))))))
  go_wp2_with fail
  clear ca0 ca1 ca2 ca3 ca4 ca5 ca6 ca7 ca8 la
  (with_reducible refine (K.is a aRa cRa aDa cDa n true _ (H.factsV (mt32 (mt32 (mt8 (mt8 (mt8 (mt1 (mt1 (mt1 (mt1 (mt1 (mt1 (mt1 mh))))))))))))) MA.out (H.cal (mt32 (mt32 (mt8 (mt8 (mt8 (mt1 (mt1 (mt1 (mt1 (mt1 (mt1 mh)))))))))))) ⟨fun _ => HP.out, fun _ => rfl⟩).mono ?_)
  rintro e w9 ⟨rfl, hb⟩
  replace H := H.below hb
  clear hb
  have cb0 := H.cell (w.heap.size + 1) 0 (.bool (b.o 0)) (mt32 (mt8 (mt8 (mt8 (mt1 mh)))))
  have cb1 := H.cell (w.heap.size + 1) 1 (.bool (b.o 1)) (mt32 (mt8 (mt8 (mt8 (mt1 (mt1 mh))))))
  have cb2 := H.cell (w.heap.size + 1) 2 (.bool (b.o 2)) (mt32 (mt8 (mt8 (mt8 (mt1 (mt1 (mt1 mh)))))))
  have cb3 := H.cell (w.heap.size + 1) 3 (.bool (b.o 3)) (mt32 (mt8 (mt8 (mt8 (mt1 (mt1 (mt1 (mt1 mh))))))))
  have cb4 := H.cell (w.heap.size + 1) 4 (.bool (b.o 4)) (mt32 (mt8 (mt8 (mt8 (mt1 (mt1 (mt1 (mt1 (mt1 mh)))))))))
  have cb5 := H.cell (w.heap.size + 1) 5 (.bool (b.o 5)) (mt32 (mt8 (mt8 (mt8 (mt1 (mt1 (mt1 (mt1 (mt1 (mt1 mh))))))))))
  have cb6 := H.cell (w.heap.size + 1) 6 (.bool (b.o 6)) (mt32 (mt8 (mt8 (mt8 (mt1 (mt1 (mt1 (mt1 (mt1 (mt1 (mt1 mh)))))))))))
  have cb7 := H.cell (w.heap.size + 1) 7 (.slice aRb b.nr cRb) (mt32 (mt32 mh))
  have cb8 := H.cell (w.heap.size + 1) 8 (.slice aDb b.nd cDb) (mt32 (mt32 (mt1 mh)))
  have lb := H.lt (w.heap.size + 1) 0 (.bool (b.o 0)) (mt32 (mt8 (mt8 (mt8 (mt1 mh)))))
  go_wp2_with fail
  clear cb0 cb1 cb2 cb3 cb4 cb5 cb6 cb7 cb8 lb
  (with_reducible refine (K.is b aRb cRb aDb cDb n q _ (H.factsV (mt32 (mt32 (mt8 (mt8 (mt8 (mt1 (mt1 (mt1 (mt1 (mt1 (mt1 (mt1 mh))))))))))))) MB.out (H.cal (mt32 (mt32 (mt8 (mt8 (mt8 (mt1 (mt1 (mt1 (mt1 (mt1 mh))))))))))) HQ.out).mono ?_)
  rintro e w10 ⟨rfl, hb⟩
  replace H := H.below hb
  clear hb
  have cx0 := H.cell (w6.heap.size) 0 (.bool (a.o 0 || b.o 0)) (mt32 (mt1 (mt1 (mt1 (mt1 (mt1 (mt1 mh)))))))
  have cx1 := H.cell (w6.heap.size) 1 (.bool (a.o 1 || b.o 1)) (mt32 (mt1 (mt1 (mt1 (mt1 (mt1 (mt1 (mt1 mh))))))))
  have cx2 := H.cell (w6.heap.size) 2 (.bool (a.o 2 || b.o 2)) (mt32 (mt8 mh))
  have cx3 := H.cell (w6.heap.size) 3 (.bool (a.o 3 || b.o 3)) (mt32 (mt8 (mt1 mh)))
  have cx4 := H.cell (w6.heap.size) 4 (.bool (a.o 4 || b.o 4)) (mt32 (mt8 (mt1 (mt1 mh))))
  have cx5 := H.cell (w6.heap.size) 5 (.bool (a.o 5 || b.o 5)) (mt32 (mt8 (mt1 (mt1 (mt1 mh)))))
  have cx6 := H.cell (w6.heap.size) 6 (.bool (a.o 6 || b.o 6)) (mt32 (mt8 (mt1 (mt1 (mt1 (mt1 mh))))))
  have cx7 := H.cell (w6.heap.size) 7 (.slice aRx (a.un b).nr cRx) (mt32 (mt8 (mt1 (mt1 (mt1 (mt1 (mt1 mh)))))))
  have cx8 := H.cell (w6.heap.size) 8 (.slice aDx (a.un b).nd cDx) (mt32 (mt8 (mt1 (mt1 (mt1 (mt1 (mt1 (mt1 mh))))))))
  have lx := H.lt (w6.heap.size) 0 (.bool (a.o 0 || b.o 0)) (mt32 (mt1 (mt1 (mt1 (mt1 (mt1 (mt1 mh)))))))
  go_wp2_with fail
  clear cx0 cx1 cx2 cx3 cx4 cx5 cx6 cx7 cx8 lx
  (with_reducible refine (qmu K a b aRx cRx aDx cDx _ (H.factsV (mt32 (mt32 (mt8 (mt8 (mt8 (mt1 (mt1 (mt1 (mt1 (mt1 (mt1 (mt1 mh))))))))))))) (un_small EA.out EB.out) MX.out (H.cal (mt32 (mt8 (mt8 (mt8 mh)))))).mono ?_)
  rintro e w11 ⟨rfl, hb⟩
  replace H := H.below hb
  clear hb
  have cx0 := H.cell (w6.heap.size) 0 (.bool (a.o 0 || b.o 0)) (mt32 (mt1 (mt1 (mt1 (mt1 (mt1 (mt1 mh)))))))
  have cx1 := H.cell (w6.heap.size) 1 (.bool (a.o 1 || b.o 1)) (mt32 (mt1 (mt1 (mt1 (mt1 (mt1 (mt1 (mt1 mh))))))))
  have cx2 := H.cell (w6.heap.size) 2 (.bool (a.o 2 || b.o 2)) (mt32 (mt8 mh))
  have cx3 := H.cell (w6.heap.size) 3 (.bool (a.o 3 || b.o 3)) (mt32 (mt8 (mt1 mh)))
  have cx4 := H.cell (w6.heap.size) 4 (.bool (a.o 4 || b.o 4)) (mt32 (mt8 (mt1 (mt1 mh))))
  have cx5 := H.cell (w6.heap.size) 5 (.bool (a.o 5 || b.o 5)) (mt32 (mt8 (mt1 (mt1 (mt1 mh)))))
  have cx6 := H.cell (w6.heap.size) 6 (.bool (a.o 6 || b.o 6)) (mt32 (mt8 (mt1 (mt1 (mt1 (mt1 mh))))))
  have cx7 := H.cell (w6.heap.size) 7 (.slice aRx (a.un b).nr cRx) (mt32 (mt8 (mt1 (mt1 (mt1 (mt1 (mt1 mh)))))))
  have cx8 := H.cell (w6.heap.size) 8 (.slice aDx (a.un b).nd cDx) (mt32 (mt8 (mt1 (mt1 (mt1 (mt1 (mt1 (mt1 mh))))))))
  have lx := H.lt (w6.heap.size) 0 (.bool (a.o 0 || b.o 0)) (mt32 (mt1 (mt1 (mt1 (mt1 (mt1 (mt1 mh)))))))
  go_wp2_with fail
  clear cx0 cx1 cx2 cx3 cx4 cx5 cx6 cx7 cx8 lx
  (with_reducible refine (qiu K a b aRx cRx aDx cDx n q _ (H.factsV (mt32 (mt32 (mt8 (mt8 (mt8 (mt1 (mt1 (mt1 (mt1 (mt1 (mt1 (mt1 mh))))))))))))) MX.out (H.cal (mt32 (mt8 (mt8 (mt8 mh))))) HR.out).mono ?_)
  rintro e w12 ⟨rfl, hb⟩
  replace H := H.below hb
  clear hb
  have cy0 := H.cell (w7.heap.size) 0 (.bool (b.o 0 || a.o 0)) (mt8 (mt8 (mt1 (mt1 (mt1 mh)))))
  have cy1 := H.cell (w7.heap.size) 1 (.bool (b.o 1 || a.o 1)) (mt8 (mt8 (mt1 (mt1 (mt1 (mt1 mh))))))
  have cy2 := H.cell (w7.heap.size) 2 (.bool (b.o 2 || a.o 2)) (mt8 (mt8 (mt1 (mt1 (mt1 (mt1 (mt1 mh)))))))
  have cy3 := H.cell (w7.heap.size) 3 (.bool (b.o 3 || a.o 3)) (mt8 (mt8 (mt1 (mt1 (mt1 (mt1 (mt1 (mt1 mh))))))))
  have cy4 := H.cell (w7.heap.size) 4 (.bool (b.o 4 || a.o 4)) (mt8 (mt8 (mt1 (mt1 (mt1 (mt1 (mt1 (mt1 (mt1 mh)))))))))
  have cy5 := H.cell (w7.heap.size) 5 (.bool (b.o 5 || a.o 5)) (mt8 (mt8 (mt8 mh)))
  have cy6 := H.cell (w7.heap.size) 6 (.bool (b.o 6 || a.o 6)) (mt8 (mt8 (mt8 (mt1 mh))))
  have cy7 := H.cell (w7.heap.size) 7 (.slice aRy (b.un a).nr cRy) (mt8 (mt8 (mt8 (mt1 (mt1 mh)))))
  have cy8 := H.cell (w7.heap.size) 8 (.slice aDy (b.un a).nd cDy) (mt8 (mt8 (mt8 (mt1 (mt1 (mt1 mh))))))
  have ly := H.lt (w7.heap.size) 0 (.bool (b.o 0 || a.o 0)) (mt8 (mt8 (mt1 (mt1 (mt1 mh)))))
  go_wp2_with fail
  clear cy0 cy1 cy2 cy3 cy4 cy5 cy6 cy7 cy8 ly
  (with_reducible refine (qiu K b a aRy cRy aDy cDy n q _ (H.factsV (mt32 (mt32 (mt8 (mt8 (mt8 (mt1 (mt1 (mt1 (mt1 (mt1 (mt1 (mt1 mh))))))))))))) MY.out (H.cal (mt32 (mt1 (mt1 (mt1 (mt1 (mt1 mh))))))) HS2.out).mono ?_)
  rintro e w13 ⟨rfl, hb⟩
  replace H := H.below hb
  clear hb
  go_wp2_with fail
  go_ret
  exact ⟨rfl, H.old⟩

set_option maxHeartbeats 8000000 in
set_option maxRecDepth 100000 in
theorem caboth_yf (K : CalWay) (a : Ca) (aRa : Option Addr) (cRa : Nat) (aDa : Option Addr) (cDa : Nat) (b : Ca) (aRb : Option Addr) (cRb : Nat) (aDb : Option Addr) (cDb : Nat) (n : Int) (w : World) (hL : FactsV w) (hCa : CalAt w a aRa cRa aDa cDa) (hCb : CalAt w b aRb cRb aDb cDb) (fa : decide (a.nr ≤ 12 ∧ a.nd ≤ 60) = true) (fb : decide (b.nr ≤ 12 ∧ b.nd ≤ 60) = true) (za : a.Small) (zb : b.Small) (ea : a.Few) (eb : b.Few) (ma : a.May) (mb : b.May) (mz : (a.un a).May) (hp : ¬ a.Is n) (mx : (a.un b).May) (my : (b.un a).May) (q : Bool) (hq : q = true ↔ b.Is n) (hr : ¬ (a.Is n ∧ b.Is n)) (hs : ¬ (b.Is n ∧ a.Is n)) :
    Calls Tryd.prog 5 #[.agg #[.bool (a.o 0), .bool (a.o 1), .bool (a.o 2), .bool (a.o 3), .bool (a.o 4), .bool (a.o 5), .bool (a.o 6), .slice aRa a.nr cRa, .slice aDa a.nd cDa], .agg #[.bool (b.o 0), .bool (b.o 1), .bool (b.o 2), .bool (b.o 3), .bool (b.o 4), .bool (b.o 5), .bool (b.o 6), .slice aRb b.nr cRb, .slice aDb b.nd cDb], .int .i64 n] w fun e w' => e = .returned (.bool true) ∧ Below w.heap.size w w' := by
  have H := (((Held.start w).add (f := factsVF) hL).add (f := calF a aRa cRa aDa cDa) hCa).add (f := calF b aRb cRb aDb cDb) hCb
  clear hL hCa hCb
  have HFA := Lib.hid fa
  have HFB := Lib.hid fb
  have HZA := Lib.hid za
  have HZB := Lib.hid zb
  have EA := Lib.hid ea
  have EB := Lib.hid eb
  have MA := Lib.hid ma
  have MB := Lib.hid mb
  have MZ := Lib.hid mz
  have HP := Lib.hid hp
  have MX := Lib.hid mx
  have MY := Lib.hid my
  have HQ := Lib.hid hq
  have HR := Lib.hid hr
  have HS2 := Lib.hid hs
  clear fa fb za zb ea eb ma mb mz hp mx my hq hr hs
  go_enter Tryd.func5, Tryd.ntmps5
  go_wp2_with fail
  replace H := ((H.box_9 (w.heap.size) (.bool (a.o 0)) (.bool (a.o 1)) (.bool (a.o 2)) (.bool (a.o 3)) (.bool (a.o 4)) (.bool (a.o 5)) (.bool (a.o 6)) (.slice aRa a.nr cRa) (.slice aDa a.nd cDa) 26 rfl).box_9 (w.heap.size + 1) (.bool (b.o 0)) (.bool (b.o 1)) (.bool (b.o 2)) (.bool (b.o 3)) (.bool (b.o 4)) (.bool (b.o 5)) (.bool (b.o 6)) (.slice aRb b.nr cRb) (.slice aDb b.nd cDb) 26 (by simp))
  (with_reducible refine (cashown_any K _ (H.factsV (mt32 (mt1 (mt1 (mt1 (mt1 (mt1 (mt1 mh))))))))).mono ?_)
  rintro e w1 ⟨rfl, hb⟩
  replace H := H.below hb
  clear hb
  have ca0 := H.cell (w.heap.size) 0 (.bool (a.o 0)) (mt8 (mt8 (mt1 (mt1 mh))))
  have ca1 := H.cell (w.heap.size) 1 (.bool (a.o 1)) (mt8 (mt8 (mt1 (mt1 (mt1 mh)))))
  have ca2 := H.cell (w.heap.size) 2 (.bool (a.o 2)) (mt8 (mt8 (mt1 (mt1 (mt1 (mt1 mh))))))
  have ca3 := H.cell (w.heap.size) 3 (.bool (a.o 3)) (mt8 (mt8 (mt1 (mt1 (mt1 (mt1 (mt1 mh)))))))
  have ca4 := H.cell (w.heap.size) 4 (.bool (a.o 4)) (mt8 (mt8 (mt1 (mt1 (mt1 (mt1 (mt1 (mt1 mh))))))))
  have ca5 := H.cell (w.heap.size) 5 (.bool (a.o 5)) (mt8 (mt8 (mt1 (mt1 (mt1 (mt1 (mt1 (mt1 (mt1 mh)))))))))
  have ca6 := H.cell (w.heap.size) 6 (.bool (a.o 6)) (mt8 (mt8 (mt8 mh)))
  have ca7 := H.cell (w.heap.size) 7 (.slice aRa a.nr cRa) (mt8 (mt8 (mt8 (mt1 mh))))
  have ca8 := H.cell (w.heap.size) 8 (.slice aDa a.nd cDa) (mt8 (mt8 (mt8 (mt1 (mt1 mh)))))
  have la := H.lt (w.heap.size) 0 (.bool (a.o 0)) (mt8 (mt8 (mt1 (mt1 mh))))
  go_wp2_with fail
  clear ca0 ca1 ca2 ca3 ca4 ca5 ca6 ca7 ca8 la
  (with_reducible refine (few_any a aRa cRa aDa cDa true _ HFA.out).mono ?_)
  rintro e w2 ⟨rfl, hb⟩
  replace H := H.below hb
  clear hb
  have cb0 := H.cell (w.heap.size + 1) 0 (.bool (b.o 0)) mh
  have cb1 := H.cell (w.heap.size + 1) 1 (.bool (b.o 1)) (mt1 mh)
  have cb2 := H.cell (w.heap.size + 1) 2 (.bool (b.o 2)) (mt1 (mt1 mh))
  have cb3 := H.cell (w.heap.size + 1) 3 (.bool (b.o 3)) (mt1 (mt1 (mt1 mh)))
  have cb4 := H.cell (w.heap.size + 1) 4 (.bool (b.o 4)) (mt1 (mt1 (mt1 (mt1 mh))))
  have cb5 := H.cell (w.heap.size + 1) 5 (.bool (b.o 5)) (mt1 (mt1 (mt1 (mt1 (mt1 mh)))))
  have cb6 := H.cell (w.heap.size + 1) 6 (.bool (b.o 6)) (mt1 (mt1 (mt1 (mt1 (mt1 (mt1 mh))))))
  have cb7 := H.cell (w.heap.size + 1) 7 (.slice aRb b.nr cRb) (mt1 (mt1 (mt1 (mt1 (mt1 (mt1 (mt1 mh)))))))
  have cb8 := H.cell (w.heap.size + 1) 8 (.slice aDb b.nd cDb) (mt8 mh)
  have lb := H.lt (w.heap.size + 1) 0 (.bool (b.o 0)) mh
  go_wp2_with fail
  clear cb0 cb1 cb2 cb3 cb4 cb5 cb6 cb7 cb8 lb
  (with_reducible refine (few_any b aRb cRb aDb cDb true _ HFB.out).mono ?_)
  rintro e w3 ⟨rfl, hb⟩
  replace H := H.below hb
  clear hb
  have ca0 := H.cell (w.heap.size) 0 (.bool (a.o 0)) (mt8 (mt8 (mt1 (mt1 mh))))
  have ca1 := H.cell (w.heap.size) 1 (.bool (a.o 1)) (mt8 (mt8 (mt1 (mt1 (mt1 mh)))))
  have ca2 := H.cell (w.heap.size) 2 (.bool (a.o 2)) (mt8 (mt8 (mt1 (mt1 (mt1 (mt1 mh))))))
  have ca3 := H.cell (w.heap.size) 3 (.bool (a.o 3)) (mt8 (mt8 (mt1 (mt1 (mt1 (mt1 (mt1 mh)))))))
  have ca4 := H.cell (w.heap.size) 4 (.bool (a.o 4)) (mt8 (mt8 (mt1 (mt1 (mt1 (mt1 (mt1 (mt1 mh))))))))
  have ca5 := H.cell (w.heap.size) 5 (.bool (a.o 5)) (mt8 (mt8 (mt1 (mt1 (mt1 (mt1 (mt1 (mt1 (mt1 mh)))))))))
  have ca6 := H.cell (w.heap.size) 6 (.bool (a.o 6)) (mt8 (mt8 (mt8 mh)))
  have ca7 := H.cell (w.heap.size) 7 (.slice aRa a.nr cRa) (mt8 (mt8 (mt8 (mt1 mh))))
  have ca8 := H.cell (w.heap.size) 8 (.slice aDa a.nd cDa) (mt8 (mt8 (mt8 (mt1 (mt1 mh)))))
  have la := H.lt (w.heap.size) 0 (.bool (a.o 0)) (mt8 (mt8 (mt1 (mt1 mh))))
  go_wp2_with fail
  clear ca0 ca1 ca2 ca3 ca4 ca5 ca6 ca7 ca8 la
  (with_reducible refine (rcmay_any a aRa cRa aDa cDa true _ HZA.out (H.cal (mt32 (mt1 (mt1 (mt1 (mt1 (mt1 mh))))))) ⟨fun _ => MA.out, fun _ => rfl⟩).mono ?_)
  rintro e w4 ⟨rfl, hb⟩
  replace H := H.below hb
  clear hb
  have cb0 := H.cell (w.heap.size + 1) 0 (.bool (b.o 0)) mh
  have cb1 := H.cell (w.heap.size + 1) 1 (.bool (b.o 1)) (mt1 mh)
  have cb2 := H.cell (w.heap.size + 1) 2 (.bool (b.o 2)) (mt1 (mt1 mh))
  have cb3 := H.cell (w.heap.size + 1) 3 (.bool (b.o 3)) (mt1 (mt1 (mt1 mh)))
  have cb4 := H.cell (w.heap.size + 1) 4 (.bool (b.o 4)) (mt1 (mt1 (mt1 (mt1 mh))))
  have cb5 := H.cell (w.heap.size + 1) 5 (.bool (b.o 5)) (mt1 (mt1 (mt1 (mt1 (mt1 mh)))))
  have cb6 := H.cell (w.heap.size + 1) 6 (.bool (b.o 6)) (mt1 (mt1 (mt1 (mt1 (mt1 (mt1 mh))))))
  have cb7 := H.cell (w.heap.size + 1) 7 (.slice aRb b.nr cRb) (mt1 (mt1 (mt1 (mt1 (mt1 (mt1 (mt1 mh)))))))
  have cb8 := H.cell (w.heap.size + 1) 8 (.slice aDb b.nd cDb) (mt8 mh)
  have lb := H.lt (w.heap.size + 1) 0 (.bool (b.o 0)) mh
  go_wp2_with fail
  clear cb0 cb1 cb2 cb3 cb4 cb5 cb6 cb7 cb8 lb
  (with_reducible refine (rcmay_any b aRb cRb aDb cDb true _ HZB.out (H.cal (mt32 (mt1 (mt1 (mt1 (mt1 mh)))))) ⟨fun _ => MB.out, fun _ => rfl⟩).mono ?_)
  rintro e w5 ⟨rfl, hb⟩
  replace H := H.below hb
  clear hb
  have ca0 := H.cell (w.heap.size) 0 (.bool (a.o 0)) (mt8 (mt8 (mt1 (mt1 mh))))
  have ca1 := H.cell (w.heap.size) 1 (.bool (a.o 1)) (mt8 (mt8 (mt1 (mt1 (mt1 mh)))))
  have ca2 := H.cell (w.heap.size) 2 (.bool (a.o 2)) (mt8 (mt8 (mt1 (mt1 (mt1 (mt1 mh))))))
  have ca3 := H.cell (w.heap.size) 3 (.bool (a.o 3)) (mt8 (mt8 (mt1 (mt1 (mt1 (mt1 (mt1 mh)))))))
  have ca4 := H.cell (w.heap.size) 4 (.bool (a.o 4)) (mt8 (mt8 (mt1 (mt1 (mt1 (mt1 (mt1 (mt1 mh))))))))
  have ca5 := H.cell (w.heap.size) 5 (.bool (a.o 5)) (mt8 (mt8 (mt1 (mt1 (mt1 (mt1 (mt1 (mt1 (mt1 mh)))))))))
  have ca6 := H.cell (w.heap.size) 6 (.bool (a.o 6)) (mt8 (mt8 (mt8 mh)))
  have ca7 := H.cell (w.heap.size) 7 (.slice aRa a.nr cRa) (mt8 (mt8 (mt8 (mt1 mh))))
  have ca8 := H.cell (w.heap.size) 8 (.slice aDa a.nd cDa) (mt8 (mt8 (mt8 (mt1 (mt1 mh)))))
  have la := H.lt (w.heap.size) 0 (.bool (a.o 0)) (mt8 (mt8 (mt1 (mt1 mh))))
  have cb0 := H.cell (w.heap.size + 1) 0 (.bool (b.o 0)) mh
  have cb1 := H.cell (w.heap.size + 1) 1 (.bool (b.o 1)) (mt1 mh)
  have cb2 := H.cell (w.heap.size + 1) 2 (.bool (b.o 2)) (mt1 (mt1 mh))
  have cb3 := H.cell (w.heap.size + 1) 3 (.bool (b.o 3)) (mt1 (mt1 (mt1 mh)))
  have cb4 := H.cell (w.heap.size + 1) 4 (.bool (b.o 4)) (mt1 (mt1 (mt1 (mt1 mh))))
  have cb5 := H.cell (w.heap.size + 1) 5 (.bool (b.o 5)) (mt1 (mt1 (mt1 (mt1 (mt1 mh)))))
  have cb6 := H.cell (w.heap.size + 1) 6 (.bool (b.o 6)) (mt1 (mt1 (mt1 (mt1 (mt1 (mt1 mh))))))
  have cb7 := H.cell (w.heap.size + 1) 7 (.slice aRb b.nr cRb) (mt1 (mt1 (mt1 (mt1 (mt1 (mt1 (mt1 mh)))))))
  have cb8 := H.cell (w.heap.size + 1) 8 (.slice aDb b.nd cDb) (mt8 mh)
  have lb := H.lt (w.heap.size + 1) 0 (.bool (b.o 0)) mh
  go_wp2_with fail
  clear ca0 ca1 ca2 ca3 ca4 ca5 ca6 ca7 ca8 la cb0 cb1 cb2 cb3 cb4 cb5 cb6 cb7 cb8 lb
  (with_reducible refine (quy K a aRa cRa aDa cDa b aRb cRb aDb cDb _ (H.factsV (mt32 (mt1 (mt1 (mt1 (mt1 (mt1 (mt1 mh)))))))) EA.out EB.out MA.out MB.out (H.cal (mt32 (mt1 (mt1 (mt1 (mt1 (mt1 mh))))))) (H.cal (mt32 (mt1 (mt1 (mt1 (mt1 mh)))))) MX.out).mono ?_)
  rintro e w6 ⟨aRx, cRx, aDx, cDx, rfl, hC, hb⟩
  replace H := H.below hb
  clear hb
  replace H := H.add (f := calF (a.un b) aRx cRx aDx cDx) hC
  clear hC
  have ca0 := H.cell (w.heap.size) 0 (.bool (a.o 0)) (mt8 (mt8 (mt1 (mt1 (mt1 mh)))))
  have ca1 := H.cell (w.heap.size) 1 (.bool (a.o 1)) (mt8 (mt8 (mt1 (mt1 (mt1 (mt1 mh))))))
  have ca2 := H.cell (w.heap.size) 2 (.bool (a.o 2)) (mt8 (mt8 (mt1 (mt1 (mt1 (mt1 (mt1 mh)))))))
  have ca3 := H.cell (w.heap.size) 3 (.bool (a.o 3)) (mt8 (mt8 (mt1 (mt1 (mt1 (mt1 (mt1 (mt1 mh))))))))
  have ca4 := H.cell (w.heap.size) 4 (.bool (a.o 4)) (mt8 (mt8 (mt1 (mt1 (mt1 (mt1 (mt1 (mt1 (mt1 mh)))))))))
  have ca5 := H.cell (w.heap.size) 5 (.bool (a.o 5)) (mt8 (mt8 (mt8 mh)))
  have ca6 := H.cell (w.heap.size) 6 (.bool (a.o 6)) (mt8 (mt8 (mt8 (mt1 mh))))
  have ca7 := H.cell (w.heap.size) 7 (.slice aRa a.nr cRa) (mt8 (mt8 (mt8 (mt1 (mt1 mh)))))
  have ca8 := H.cell (w.heap.size) 8 (.slice aDa a.nd cDa) (mt8 (mt8 (mt8 (mt1 (mt1 (mt1 mh))))))
  have la := H.lt (w.heap.size) 0 (.bool (a.o 0)) (mt8 (mt8 (mt1 (mt1 (mt1 mh)))))
  have cb0 := H.cell (w.heap.size + 1) 0 (.bool (b.o 0)) (mt1 mh)
  have cb1 := H.cell (w.heap.size + 1) 1 (.bool (b.o 1)) (mt1 (mt1 mh))
  have cb2 := H.cell (w.heap.size + 1) 2 (.bool (b.o 2)) (mt1 (mt1 (mt1 mh)))
  have cb3 := H.cell (w.heap.size + 1) 3 (.bool (b.o 3)) (mt1 (mt1 (mt1 (mt1 mh))))
  have cb4 := H.cell (w.heap.size + 1) 4 (.bool (b.o 4)) (mt1 (mt1 (mt1 (mt1 (mt1 mh)))))
  have cb5 := H.cell (w.heap.size + 1) 5 (.bool (b.o 5)) (mt1 (mt1 (mt1 (mt1 (mt1 (mt1 mh))))))
  have cb6 := H.cell (w.heap.size + 1) 6 (.bool (b.o 6)) (mt1 (mt1 (mt1 (mt1 (mt1 (mt1 (mt1 mh)))))))
  have cb7 := H.cell (w.heap.size + 1) 7 (.slice aRb b.nr cRb) (mt8 mh)
  have cb8 := H.cell (w.heap.size + 1) 8 (.slice aDb b.nd cDb) (mt8 (mt1 mh))
  have lb := H.lt (w.heap.size + 1) 0 (.bool (b.o 0)) (mt1 mh)
  go_wp2_with fail
  clear ca0 ca1 ca2 ca3 ca4 ca5 ca6 ca7 ca8 la cb0 cb1 cb2 cb3 cb4 cb5 cb6 cb7 cb8 lb
  replace H := (H.box_9 (w6.heap.size) (.bool (a.o 0 || b.o 0)) (.bool (a.o 1 || b.o 1)) (.bool (a.o 2 || b.o 2)) (.bool (a.o 3 || b.o 3)) (.bool (a.o 4 || b.o 4)) (.bool (a.o 5 || b.o 5)) (.bool (a.o 6 || b.o 6)) (.slice aRx (a.un b).nr cRx) (.slice aDx (a.un b).nd cDx) 26 rfl)
  (with_reducible refine (quy K b aRb cRb aDb cDb a aRa cRa aDa cDa _ (H.factsV (mt32 (mt8 (mt8 (mt8 (mt1 mh)))))) EB.out EA.out MB.out MA.out (H.cal (mt32 (mt8 (mt8 (mt1 (mt1 (mt1 (mt1 (mt1 (mt1 (mt1 mh))))))))))) (H.cal (mt32 (mt8 (mt8 (mt8 mh))))) MY.out).mono ?_)
  rintro e w7 ⟨aRy, cRy, aDy, cDy, rfl, hC, hb⟩
  replace H := H.below hb
  clear hb
  replace H := H.add (f := calF (b.un a) aRy cRy aDy cDy) hC
  clear hC
  have ca0 := H.cell (w.heap.size) 0 (.bool (a.o 0)) (mt32 (mt1 (mt1 (mt1 (mt1 (mt1 (mt1 mh)))))))
  have ca1 := H.cell (w.heap.size) 1 (.bool (a.o 1)) (mt32 (mt1 (mt1 (mt1 (mt1 (mt1 (mt1 (mt1 mh))))))))
  have ca2 := H.cell (w.heap.size) 2 (.bool (a.o 2)) (mt32 (mt8 mh))
  have ca3 := H.cell (w.heap.size) 3 (.bool (a.o 3)) (mt32 (mt8 (mt1 mh)))
  have ca4 := H.cell (w.heap.size) 4 (.bool (a.o 4)) (mt32 (mt8 (mt1 (mt1 mh))))
  have ca5 := H.cell (w.heap.size) 5 (.bool (a.o 5)) (mt32 (mt8 (mt1 (mt1 (mt1 mh)))))
  have ca6 := H.cell (w.heap.size) 6 (.bool (a.o 6)) (mt32 (mt8 (mt1 (mt1 (mt1 (mt1 mh))))))
  have ca7 := H.cell (w.heap.size) 7 (.slice aRa a.nr cRa) (mt32 (mt8 (mt1 (mt1 (mt1 (mt1 (mt1 mh)))))))
  have ca8 := H.cell (w.heap.size) 8 (.slice aDa a.nd cDa) (mt32 (mt8 (mt1 (mt1 (mt1 (mt1 (mt1 (mt1 mh))))))))
  have la := H.lt (w.heap.size) 0 (.bool (a.o 0)) (mt32 (mt1 (mt1 (mt1 (mt1 (mt1 (mt1 mh)))))))
  go_wp2_with fail
  clear ca0 ca1 ca2 ca3 ca4 ca5 ca6 ca7 ca8 la
  replace H := (H.box_9 (w7.heap.size) (.bool (b.o 0 || a.o 0)) (.bool (b.o 1 || a.o 1)) (.bool (b.o 2 || a.o 2)) (.bool (b.o 3 || a.o 3)) (.bool (b.o 4 || a.o 4)) (.bool (b.o 5 || a.o 5)) (.bool (b.o 6 || a.o 6)) (.slice aRy (b.un a).nr cRy) (.slice aDy (b.un a).nd cDy) 26 rfl)
  (with_reducible refine (quz K a aRa cRa aDa cDa _ (H.factsV (mt32 (mt32 (mt8 (mt1 (mt1 (mt1 (mt1 mh)))))))) EA.out MA.out (H.cal (mt32 (mt32 (mt8 (mt1 (mt1 (mt1 mh))))))) MZ.out).mono ?_)
  rintro e w8 ⟨aRz, cRz, aDz, cDz, rfl, hC, hb⟩
  replace H := H.below hb
  clear hb
  replace H := H.add (f := calF (a.un a) aRz cRz aDz cDz) hC
  clear hC
  have ca0 := H.cell (w.heap.size) 0 (.bool (a.o 0)) (mt32 (mt8 (mt8 (mt8 (mt1 mh)))))
  have ca1 := H.cell (w.heap.size) 1 (.bool (a.o 1)) (mt32 (mt8 (mt8 (mt8 (mt1 (mt1 mh))))))
  have ca2 := H.cell (w.heap.size) 2 (.bool (a.o 2)) (mt32 (mt8 (mt8 (mt8 (mt1 (mt1 (mt1 mh)))))))
  have ca3 := H.cell (w.heap.size) 3 (.bool (a.o 3)) (mt32 (mt8 (mt8 (mt8 (mt1 (mt1 (mt1 (mt1 mh))))))))
  have ca4 := H.cell (w.heap.size) 4 (.bool (a.o 4)) (mt32 (mt8 (mt8 (mt8 (mt1 (mt1 (mt1 (mt1 (mt1 mh)))))))))
  have ca5 := H.cell (w.heap.size) 5 (.bool (a.o 5)) (mt32 (mt8 (mt8 (mt8 (mt1 (mt1 (mt1 (mt1 (mt1 (mt1 mh))))))))))
  have ca6 := H.cell (w.heap.size) 6 (.bool (a.o 6)) (mt32 (mt8 (mt8 (mt8 (mt1 (mt1 (mt1 (mt1 (mt1 (mt1 (mt1 mh)))))))))))
  have ca7 := H.cell (w.heap.size) 7 (.slice aRa a.nr cRa) (mt32 (mt32 mh))
  have ca8 := H.cell (w.heap.size) 8 (.slice aDa a.nd cDa) (mt32 (mt32 (mt1 mh)))
  have la := H.lt (w.heap.size) 0 (.bool (a.o 0)) (mt32 (mt8 (mt8 (mt8 (mt1 mh)))))
  go_wp2_with fail
  clear ca0 ca1 ca2 ca3 ca4 ca5 ca6 ca7 ca8 la
  replace H := (H.box_9 (w8.heap.size) (.bool (a.o 0)) (.bool (a.o 1)) (.bool (a.o 2)) (.bool (a.o 3)) (.bool (a.o 4)) (.bool (a.o 5)) (.bool (a.o 6)) (.slice aRz (a.un a).nr cRz) (.slice aDz (a.un a).nd cDz) 26 rfl)
  have KS : Hid (∀ w' : World, Held w [.cell (w8.heap.size) 0 (.bool (a.o 0)), .cell (w8.heap.size) 1 (.bool (a.o 1)), .cell (w8.heap.size) 2 (.bool (a.o 2)), .cell (w8.heap.size) 3 (.bool (a.o 3)), .cell (w8.heap.size) 4 (.bool (a.o 4)), .cell (w8.heap.size) 5 (.bool (a.o 5)), .cell (w8.heap.size) 6 (.bool (a.o 6)), .cell (w8.heap.size) 7 (.slice aRz (a.un a).nr cRz), .cell (w8.heap.size) 8 (.slice aDz (a.un a).nd cDz), .free (w8.heap.size) 0, .free (w8.heap.size) 1, .free (w8.heap.size) 2, .free (w8.heap.size) 3, .free (w8.heap.size) 4, .free (w8.heap.size) 5, .free (w8.heap.size) 6, .free (w8.heap.size) 7, .free (w8.heap.size) 8, calF (a.un a) aRz cRz aDz cDz, .cell (w7.heap.size) 0 (.bool (b.o 0 || a.o 0)), .cell (w7.heap.size) 1 (.bool (b.o 1 || a.o 1)), .cell (w7.heap.size) 2 (.bool (b.o 2 || a.o 2)), .cell (w7.heap.size) 3 (.bool (b.o 3 || a.o 3)), .cell (w7.heap.size) 4 (.bool (b.o 4 || a.o 4)), .cell (w7.heap.size) 5 (.bool (b.o 5 || a.o 5)), .cell (w7.heap.size) 6 (.bool (b.o 6 || a.o 6)), .cell (w7.heap.size) 7 (.slice aRy (b.un a).nr cRy), .cell (w7.heap.size) 8 (.slice aDy (b.un a).nd cDy), .free (w7.heap.size) 0, .free (w7.heap.size) 1, .free (w7.heap.size) 2, .free (w7.heap.size) 3, .free (w7.heap.size) 4, .free (w7.heap.size) 5, .free (w7.heap.size) 6, .free (w7.heap.size) 7, .free (w7.heap.size) 8, calF (b.un a) aRy cRy aDy cDy, .cell (w6.heap.size) 0 (.bool (a.o 0 || b.o 0)), .cell (w6.heap.size) 1 (.bool (a.o 1 || b.o 1)), .cell (w6.heap.size) 2 (.bool (a.o 2 || b.o 2)), .cell (w6.heap.size) 3 (.bool (a.o 3 || b.o 3)), .cell (w6.heap.size) 4 (.bool (a.o 4 || b.o 4)), .cell (w6.heap.size) 5 (.bool (a.o 5 || b.o 5)), .cell (w6.heap.size) 6 (.bool (a.o 6 || b.o 6)), .cell (w6.heap.size) 7 (.slice aRx (a.un b).nr cRx), .cell (w6.heap.size) 8 (.slice aDx (a.un b).nd cDx), .free (w6.heap.size) 0, .free (w6.heap.size) 1, .free (w6.heap.size) 2, .free (w6.heap.size) 3, .free (w6.heap.size) 4, .free (w6.heap.size) 5, .free (w6.heap.size) 6, .free (w6.heap.size) 7, .free (w6.heap.size) 8, calF (a.un b) aRx cRx aDx cDx, .cell (w.heap.size + 1) 0 (.bool (b.o 0)), .cell (w.heap.size + 1) 1 (.bool (b.o 1)), .cell (w.heap.size + 1) 2 (.bool (b.o 2)), .cell (w.heap.size + 1) 3 (.bool (b.o 3)), .cell (w.heap.size + 1) 4 (.bool (b.o 4)), .cell (w.heap.size + 1) 5 (.bool (b.o 5)), .cell (w.heap.size + 1) 6 (.bool (b.o 6)), .cell (w.heap.size + 1) 7 (.slice aRb b.nr cRb), .cell (w.heap.size + 1) 8 (.slice aDb b.nd cDb), .free (w.heap.size + 1) 0, .free (w.heap.size + 1) 1, .free (w.heap.size + 1) 2, .free (w.heap.size + 1) 3, .free (w.heap.size + 1) 4, .free (w.heap.size + 1) 5, .free (w.heap.size + 1) 6, .free (w.heap.size + 1) 7, .free (w.heap.size + 1) 8, .cell (w.heap.size) 0 (.bool (a.o 0)), .cell (w.heap.size) 1 (.bool (a.o 1)), .cell (w.heap.size) 2 (.bool (a.o 2)), .cell (w.heap.size) 3 (.bool (a.o 3)), .cell (w.heap.size) 4 (.bool (a.o 4)), .cell (w.heap.size) 5 (.bool (a.o 5)), .cell (w.heap.size) 6 (.bool (a.o 6)), .cell (w.heap.size) 7 (.slice aRa a.nr cRa), .cell (w.heap.size) 8 (.slice aDa a.nd cDa), .free (w.heap.size) 0, .free (w.heap.size) 1, .free (w.heap.size) 2, .free (w.heap.size) 3, .free (w.heap.size) 4, .free (w.heap.size) 5, .free (w.heap.size) 6, .free (w.heap.size) 7, .free (w.heap.size) 8, calF b aRb cRb aDb cDb, calF a aRa cRa aDa cDa, factsVF] w' → w'.cell? ⟨w8.heap.size, 0, none⟩ = some (.bool (a.o 0)) ∧ w'.cell? ⟨w8.heap.size, 1, none⟩ = some (.bool (a.o 1)) ∧ w'.cell? ⟨w8.heap.size, 2, none⟩ = some (.bool (a.o 2)) ∧ w'.cell? ⟨w8.heap.size, 3, none⟩ = some (.bool (a.o 3)) ∧ w'.cell? ⟨w8.heap.size, 4, none⟩ = some (.bool (a.o 4)) ∧ w'.cell? ⟨w8.heap.size, 5, none⟩ = some (.bool (a.o 5)) ∧ w'.cell? ⟨w8.heap.size, 6, none⟩ = some (.bool (a.o 6)) ∧ w'.cell? ⟨w8.heap.size, 7, none⟩ = some (.slice aRz (a.un a).nr cRz) ∧ w'.cell? ⟨w8.heap.size, 8, none⟩ = some (.slice aDz (a.un a).nd cDz) ∧ w'.cell? ⟨w.heap.size, 0, none⟩ = some (.bool (a.o 0)) ∧ w'.cell? ⟨w.heap.size, 1, none⟩ = some (.bool (a.o 1)) ∧ w'.cell? ⟨w.heap.size, 2, none⟩ = some (.bool (a.o 2)) ∧ w'.cell? ⟨w.heap.size, 3, none⟩ = some (.bool (a.o 3)) ∧ w'.cell? ⟨w.heap.size, 4, none⟩ = some (.bool (a.o 4)) ∧ w'.cell? ⟨w.heap.size, 5, none⟩ = some (.bool (a.o 5)) ∧ w'.cell? ⟨w.heap.size, 6, none⟩ = some (.bool (a.o 6)) ∧ w'.cell? ⟨w.heap.size, 7, none⟩ = some (.slice aRa a.nr cRa) ∧ w'.cell? ⟨w.heap.size, 8, none⟩ = some (.slice aDa a.nd cDa) ∧ Held w [.cell (w8.heap.size) 0 (.bool (a.o 0)), .cell (w8.heap.size) 1 (.bool (a.o 1)), .cell (w8.heap.size) 2 (.bool (a.o 2)), .cell (w8.heap.size) 3 (.bool (a.o 3)), .cell (w8.heap.size) 4 (.bool (a.o 4)), .cell (w8.heap.size) 5 (.bool (a.o 5)), .cell (w8.heap.size) 6 (.bool (a.o 6)), .cell (w8.heap.size) 7 (.slice aRz (a.un a).nr cRz), .cell (w8.heap.size) 8 (.slice aDz (a.un a).nd cDz), .free (w8.heap.size) 0, .free (w8.heap.size) 1, .free (w8.heap.size) 2, .free (w8.heap.size) 3, .free (w8.heap.size) 4, .free (w8.heap.size) 5, .free (w8.heap.size) 6, .free (w8.heap.size) 7, .free (w8.heap.size) 8, calF (a.un a) aRz cRz aDz cDz, .cell (w7.heap.size) 0 (.bool (b.o 0 || a.o 0)), .cell (w7.heap.size) 1 (.bool (b.o 1 || a.o 1)), .cell (w7.heap.size) 2 (.bool (b.o 2 || a.o 2)), .cell (w7.heap.size) 3 (.bool (b.o 3 || a.o 3)), .cell (w7.heap.size) 4 (.bool (b.o 4 || a.o 4)), .cell (w7.heap.size) 5 (.bool (b.o 5 || a.o 5)), .cell (w7.heap.size) 6 (.bool (b.o 6 || a.o 6)), .cell (w7.heap.size) 7 (.slice aRy (b.un a).nr cRy), .cell (w7.heap.size) 8 (.slice aDy (b.un a).nd cDy), .free (w7.heap.size) 0, .free (w7.heap.size) 1, .free (w7.heap.size) 2, .free (w7.heap.size) 3, .free (w7.heap.size) 4, .free (w7.heap.size) 5, .free (w7.heap.size) 6, .free (w7.heap.size) 7, .free (w7.heap.size) 8, calF (b.un a) aRy cRy aDy cDy, .cell (w6.heap.size) 0 (.bool (a.o 0 || b.o 0)), .cell (w6.heap.size) 1 (.bool (a.o 1 || b.o 1)), .cell (w6.heap.size) 2 (.bool (a.o 2 || b.o 2)), .cell (w6.heap.size) 3 (.bool (a.o 3 || b.o 3)), .cell (w6.heap.size) 4 (.bool (a.o 4 || b.o 4)), .cell (w6.heap.size) 5 (.bool (a.o 5 || b.o 5)), .cell (w6.heap.size) 6 (.bool (a.o 6 || b.o 6)), .cell (w6.heap.size) 7 (.slice aRx (a.un b).nr cRx), .cell (w6.heap.size) 8 (.slice aDx (a.un b).nd cDx), .free (w6.heap.size) 0, .free (w6.heap.size) 1, .free (w6.heap.size) 2, .free (w6.heap.size) 3, .free (w6.heap.size) 4, .free (w6.heap.size) 5, .free (w6.heap.size) 6, .free (w6.heap.size) 7, .free (w6.heap.size) 8, calF (a.un b) aRx cRx aDx cDx, .cell (w.heap.size + 1) 0 (.bool (b.o 0)), .cell (w.heap.size + 1) 1 (.bool (b.o 1)), .cell (w.heap.size + 1) 2 (.bool (b.o 2)), .cell (w.heap.size + 1) 3 (.bool (b.o 3)), .cell (w.heap.size + 1) 4 (.bool (b.o 4)), .cell (w.heap.size + 1) 5 (.bool (b.o 5)), .cell (w.heap.size + 1) 6 (.bool (b.o 6)), .cell (w.heap.size + 1) 7 (.slice aRb b.nr cRb), .cell (w.heap.size + 1) 8 (.slice aDb b.nd cDb), .free (w.heap.size + 1) 0, .free (w.heap.size + 1) 1, .free (w.heap.size + 1) 2, .free (w.heap.size + 1) 3, .free (w.heap.size + 1) 4, .free (w.heap.size + 1) 5, .free (w.heap.size + 1) 6, .free (w.heap.size + 1) 7, .free (w.heap.size + 1) 8, .cell (w.heap.size) 0 (.bool (a.o 0)), .cell (w.heap.size) 1 (.bool (a.o 1)), .cell (w.heap.size) 2 (.bool (a.o 2)), .cell (w.heap.size) 3 (.bool (a.o 3)), .cell (w.heap.size) 4 (.bool (a.o 4)), .cell (w.heap.size) 5 (.bool (a.o 5)), .cell (w.heap.size) 6 (.bool (a.o 6)), .cell (w.heap.size) 7 (.slice aRa a.nr cRa), .cell (w.heap.size) 8 (.slice aDa a.nd cDa), .free (w.heap.size) 0, .free (w.heap.size) 1, .free (w.heap.size) 2, .free (w.heap.size) 3, .free (w.heap.size) 4, .free (w.heap.size) 5, .free (w.heap.size) 6, .free (w.heap.size) 7, .free (w.heap.size) 8, calF b aRb cRb aDb cDb, calF a aRa cRa aDa cDa, factsVF] w') := Lib.hid (fun _ h => ⟨h.cell (w8.heap.size) 0 (.bool (a.o 0)) mh, h.cell (w8.heap.size) 1 (.bool (a.o 1)) (mt1 mh), h.cell (w8.heap.size) 2 (.bool (a.o 2)) (mt1 (mt1 mh)), h.cell (w8.heap.size) 3 (.bool (a.o 3)) (mt1 (mt1 (mt1 mh))), h.cell (w8.heap.size) 4 (.bool (a.o 4)) (mt1 (mt1 (mt1 (mt1 mh)))), h.cell (w8.heap.size) 5 (.bool (a.o 5)) (mt1 (mt1 (mt1 (mt1 (mt1 mh))))), h.cell (w8.heap.size) 6 (.bool (a.o 6)) (mt1 (mt1 (mt1 (mt1 (mt1 (mt1 mh)))))), h.cell (w8.heap.size) 7 (.slice aRz (a.un a).nr cRz) (mt1 (mt1 (mt1 (mt1 (mt1 (mt1 (mt1 mh))))))), h.cell (w8.heap.size) 8 (.slice aDz (a.un a).nd cDz) (mt8 mh), h.cell (w.heap.size) 0 (.bool (a.o 0)) (mt32 (mt32 (mt8 (mt1 (mt1 (mt1 mh)))))), h.cell (w.heap.size) 1 (.bool (a.o 1)) (mt32 (mt32 (mt8 (mt1 (mt1 (mt1 (mt1 mh))))))), h.cell (w.heap.size) 2 (.bool (a.o 2)) (mt32 (mt32 (mt8 (mt1 (mt1 (mt1 (mt1 (mt1 mh)))))))), h.cell (w.heap.size) 3 (.bool (a.o 3)) (mt32 (mt32 (mt8 (mt1 (mt1 (mt1 (mt1 (mt1 (mt1 mh))))))))), h.cell (w.heap.size) 4 (.bool (a.o 4)) (mt32 (mt32 (mt8 (mt1 (mt1 (mt1 (mt1 (mt1 (mt1 (mt1 mh)))))))))), h.cell (w.heap.size) 5 (.bool (a.o 5)) (mt32 (mt32 (mt8 (mt8 mh)))), h.cell (w.heap.size) 6 (.bool (a.o 6)) (mt32 (mt32 (mt8 (mt8 (mt1 mh))))), h.cell (w.heap.size) 7 (.slice aRa a.nr cRa) (mt32 (mt32 (mt8 (mt8 (mt1 (mt1 mh)))))), h.cell (w.heap.size) 8 (.slice aDa a.nd cDa) (mt32 (mt32 (mt8 (mt8 (mt1 (mt1 (mt1 mh))))))), h⟩)
  have KH : Hid (∀ w' : World, w'.cell? ⟨w8.heap.size, 0, none⟩ = some (.bool (a.o 0)) ∧ w'.cell? ⟨w8.heap.size, 1, none⟩ = some (.bool (a.o 1)) ∧ w'.cell? ⟨w8.heap.size, 2, none⟩ = some (.bool (a.o 2)) ∧ w'.cell? ⟨w8.heap.size, 3, none⟩ = some (.bool (a.o 3)) ∧ w'.cell? ⟨w8.heap.size, 4, none⟩ = some (.bool (a.o 4)) ∧ w'.cell? ⟨w8.heap.size, 5, none⟩ = some (.bool (a.o 5)) ∧ w'.cell? ⟨w8.heap.size, 6, none⟩ = some (.bool (a.o 6)) ∧ w'.cell? ⟨w8.heap.size, 7, none⟩ = some (.slice aRz (a.un a).nr cRz) ∧ w'.cell? ⟨w8.heap.size, 8, none⟩ = some (.slice aDz (a.un a).nd cDz) ∧ w'.cell? ⟨w.heap.size, 0, none⟩ = some (.bool (a.o 0)) ∧ w'.cell? ⟨w.heap.size, 1, none⟩ = some (.bool (a.o 1)) ∧ w'.cell? ⟨w.heap.size, 2, none⟩ = some (.bool (a.o 2)) ∧ w'.cell? ⟨w.heap.size, 3, none⟩ = some (.bool (a.o 3)) ∧ w'.cell? ⟨w.heap.size, 4, none⟩ = some (.bool (a.o 4)) ∧ w'.cell? ⟨w.heap.size, 5, none⟩ = some (.bool (a.o 5)) ∧ w'.cell? ⟨w.heap.size, 6, none⟩ = some (.bool (a.o 6)) ∧ w'.cell? ⟨w.heap.size, 7, none⟩ = some (.slice aRa a.nr cRa) ∧ w'.cell? ⟨w.heap.size, 8, none⟩ = some (.slice aDa a.nd cDa) ∧ Held w [.cell (w8.heap.size) 0 (.bool (a.o 0)), .cell (w8.heap.size) 1 (.bool (a.o 1)), .cell (w8.heap.size) 2 (.bool (a.o 2)), .cell (w8.heap.size) 3 (.bool (a.o 3)), .cell (w8.heap.size) 4 (.bool (a.o 4)), .cell (w8.heap.size) 5 (.bool (a.o 5)), .cell (w8.heap.size) 6 (.bool (a.o 6)), .cell (w8.heap.size) 7 (.slice aRz (a.un a).nr cRz), .cell (w8.heap.size) 8 (.slice aDz (a.un a).nd cDz), .free (w8.heap.size) 0, .free (w8.heap.size) 1, .free (w8.heap.size) 2, .free (w8.heap.size) 3, .free (w8.heap.size) 4, .free (w8.heap.size) 5, .free (w8.heap.size) 6, .free (w8.heap.size) 7, .free (w8.heap.size) 8, calF (a.un a) aRz cRz aDz cDz, .cell (w7.heap.size) 0 (.bool (b.o 0 || a.o 0)), .cell (w7.heap.size) 1 (.bool (b.o 1 || a.o 1)), .cell (w7.heap.size) 2 (.bool (b.o 2 || a.o 2)), .cell (w7.heap.size) 3 (.bool (b.o 3 || a.o 3)), .cell (w7.heap.size) 4 (.bool (b.o 4 || a.o 4)), .cell (w7.heap.size) 5 (.bool (b.o 5 || a.o 5)), .cell (w7.heap.size) 6 (.bool (b.o 6 || a.o 6)), .cell (w7.heap.size) 7 (.slice aRy (b.un a).nr cRy), .cell (w7.heap.size) 8 (.slice aDy (b.un a).nd cDy), .free (w7.heap.size) 0, .free (w7.heap.size) 1, .free (w7.heap.size) 2, .free (w7.heap.size) 3, .free (w7.heap.size) 4, .free (w7.heap.size) 5, .free (w7.heap.size) 6, .free (w7.heap.size) 7, .free (w7.heap.size) 8, calF (b.un a) aRy cRy aDy cDy, .cell (w6.heap.size) 0 (.bool (a.o 0 || b.o 0)), .cell (w6.heap.size) 1 (.bool (a.o 1 || b.o 1)), .cell (w6.heap.size) 2 (.bool (a.o 2 || b.o 2)), .cell (w6.heap.size) 3 (.bool (a.o 3 || b.o 3)), .cell (w6.heap.size) 4 (.bool (a.o 4 || b.o 4)), .cell (w6.heap.size) 5 (.bool (a.o 5 || b.o 5)), .cell (w6.heap.size) 6 (.bool (a.o 6 || b.o 6)), .cell (w6.heap.size) 7 (.slice aRx (a.un b).nr cRx), .cell (w6.heap.size) 8 (.slice aDx (a.un b).nd cDx), .free (w6.heap.size) 0, .free (w6.heap.size) 1, .free (w6.heap.size) 2, .free (w6.heap.size) 3, .free (w6.heap.size) 4, .free (w6.heap.size) 5, .free (w6.heap.size) 6, .free (w6.heap.size) 7, .free (w6.heap.size) 8, calF (a.un b) aRx cRx aDx cDx, .cell (w.heap.size + 1) 0 (.bool (b.o 0)), .cell (w.heap.size + 1) 1 (.bool (b.o 1)), .cell (w.heap.size + 1) 2 (.bool (b.o 2)), .cell (w.heap.size + 1) 3 (.bool (b.o 3)), .cell (w.heap.size + 1) 4 (.bool (b.o 4)), .cell (w.heap.size + 1) 5 (.bool (b.o 5)), .cell (w.heap.size + 1) 6 (.bool (b.o 6)), .cell (w.heap.size + 1) 7 (.slice aRb b.nr cRb), .cell (w.heap.size + 1) 8 (.slice aDb b.nd cDb), .free (w.heap.size + 1) 0, .free (w.heap.size + 1) 1, .free (w.heap.size + 1) 2, .free (w.heap.size + 1) 3, .free (w.heap.size + 1) 4, .free (w.heap.size + 1) 5, .free (w.heap.size + 1) 6, .free (w.heap.size + 1) 7, .free (w.heap.size + 1) 8, .cell (w.heap.size) 0 (.bool (a.o 0)), .cell (w.heap.size) 1 (.bool (a.o 1)), .cell (w.heap.size) 2 (.bool (a.o 2)), .cell (w.heap.size) 3 (.bool (a.o 3)), .cell (w.heap.size) 4 (.bool (a.o 4)), .cell (w.heap.size) 5 (.bool (a.o 5)), .cell (w.heap.size) 6 (.bool (a.o 6)), .cell (w.heap.size) 7 (.slice aRa a.nr cRa), .cell (w.heap.size) 8 (.slice aDa a.nd cDa), .free (w.heap.size) 0, .free (w.heap.size) 1, .free (w.heap.size) 2, .free (w.heap.size) 3, .free (w.heap.size) 4, .free (w.heap.size) 5, .free (w.heap.size) 6, .free (w.heap.size) 7, .free (w.heap.size) 8, calF b aRb cRb aDb cDb, calF a aRa cRa aDa cDa, factsVF] w' → Held w [.cell (w8.heap.size) 0 (.bool (a.o 0)), .cell (w8.heap.size) 1 (.bool (a.o 1)), .cell (w8.heap.size) 2 (.bool (a.o 2)), .cell (w8.heap.size) 3 (.bool (a.o 3)), .cell (w8.heap.size) 4 (.bool (a.o 4)), .cell (w8.heap.size) 5 (.bool (a.o 5)), .cell (w8.heap.size) 6 (.bool (a.o 6)), .cell (w8.heap.size) 7 (.slice aRz (a.un a).nr cRz), .cell (w8.heap.size) 8 (.slice aDz (a.un a).nd cDz), .free (w8.heap.size) 0, .free (w8.heap.size) 1, .free (w8.heap.size) 2, .free (w8.heap.size) 3, .free (w8.heap.size) 4, .free (w8.heap.size) 5, .free (w8.heap.size) 6, .free (w8.heap.size) 7, .free (w8.heap.size) 8, calF (a.un a) aRz cRz aDz cDz, .cell (w7.heap.size) 0 (.bool (b.o 0 || a.o 0)), .cell (w7.heap.size) 1 (.bool (b.o 1 || a.o 1)), .cell (w7.heap.size) 2 (.bool (b.o 2 || a.o 2)), .cell (w7.heap.size) 3 (.bool (b.o 3 || a.o 3)), .cell (w7.heap.size) 4 (.bool (b.o 4 || a.o 4)), .cell (w7.heap.size) 5 (.bool (b.o 5 || a.o 5)), .cell (w7.heap.size) 6 (.bool (b.o 6 || a.o 6)), .cell (w7.heap.size) 7 (.slice aRy (b.un a).nr cRy), .cell (w7.heap.size) 8 (.slice aDy (b.un a).nd cDy), .free (w7.heap.size) 0, .free (w7.heap.size) 1, .free (w7.heap.size) 2, .free (w7.heap.size) 3, .free (w7.heap.size) 4, .free (w7.heap.size) 5, .free (w7.heap.size) 6, .free (w7.heap.size) 7, .free (w7.heap.size) 8, calF (b.un a) aRy cRy aDy cDy, .cell (w6.heap.size) 0 (.bool (a.o 0 || b.o 0)), .cell (w6.heap.size) 1 (.bool (a.o 1 || b.o 1)), .cell (w6.heap.size) 2 (.bool (a.o 2 || b.o 2)), .cell (w6.heap.size) 3 (.bool (a.o 3 || b.o 3)), .cell (w6.heap.size) 4 (.bool (a.o 4 || b.o 4)), .cell (w6.heap.size) 5 (.bool (a.o 5 || b.o 5)), .cell (w6.heap.size) 6 (.bool (a.o 6 || b.o 6)), .cell (w6.heap.size) 7 (.slice aRx (a.un b).nr cRx), .cell (w6.heap.size) 8 (.slice aDx (a.un b).nd cDx), .free (w6.heap.size) 0, .free (w6.heap.size) 1, .free (w6.heap.size) 2, .free (w6.heap.size) 3, .free (w6.heap.size) 4, .free (w6.heap.size) 5, .free (w6.heap.size) 6, .free (w6.heap.size) 7, .free (w6.heap.size) 8, calF (a.un b) aRx cRx aDx cDx, .cell (w.heap.size + 1) 0 (.bool (b.o 0)), .cell (w.heap.size + 1) 1 (.bool (b.o 1)), .cell (w.heap.size + 1) 2 (.bool (b.o 2)), .cell (w.heap.size + 1) 3 (.bool (b.o 3)), .cell (w.heap.size + 1) 4 (.bool (b.o 4)), .cell (w.heap.size + 1) 5 (.bool (b.o 5)), .cell (w.heap.size + 1) 6 (.bool (b.o 6)), .cell (w.heap.size + 1) 7 (.slice aRb b.nr cRb), .cell (w.heap.size + 1) 8 (.slice aDb b.nd cDb), .free (w.heap.size + 1) 0, .free (w.heap.size + 1) 1, .free (w.heap.size + 1) 2, .free (w.heap.size + 1) 3, .free (w.heap.size + 1) 4, .free (w.heap.size + 1) 5, .free (w.heap.size + 1) 6, .free (w.heap.size + 1) 7, .free (w.heap.size + 1) 8, .cell (w.heap.size) 0 (.bool (a.o 0)), .cell (w.heap.size) 1 (.bool (a.o 1)), .cell (w.heap.size) 2 (.bool (a.o 2)), .cell (w.heap.size) 3 (.bool (a.o 3)), .cell (w.heap.size) 4 (.bool (a.o 4)), .cell (w.heap.size) 5 (.bool (a.o 5)), .cell (w.heap.size) 6 (.bool (a.o 6)), .cell (w.heap.size) 7 (.slice aRa a.nr cRa), .cell (w.heap.size) 8 (.slice aDa a.nd cDa), .free (w.heap.size) 0, .free (w.heap.size) 1, .free (w.heap.size) 2, .free (w.heap.size) 3, .free (w.heap.size) 4, .free (w.heap.size) 5, .free (w.heap.size) 6, .free (w.heap.size) 7, .free (w.heap.size) 8, calF b aRb cRb aDb cDb, calF a aRa cRa aDa cDa, factsVF] w') := Lib.hid (fun _ h => h.2.2.2.2.2.2.2.2.2.2.2.2.2.2.2.2.2.2)
  refine wp_region_held_drew (S := fun w' => w'.cell? ⟨w8.heap.size, 0, none⟩ = some (.bool (a.o 0)) ∧ w'.cell? ⟨w8.heap.size, 1, none⟩ = some (.bool (a.o 1)) ∧ w'.cell? ⟨w8.heap.size, 2, none⟩ = some (.bool (a.o 2)) ∧ w'.cell? ⟨w8.heap.size, 3, none⟩ = some (.bool (a.o 3)) ∧ w'.cell? ⟨w8.heap.size, 4, none⟩ = some (.bool (a.o 4)) ∧ w'.cell? ⟨w8.heap.size, 5, none⟩ = some (.bool (a.o 5)) ∧ w'.cell? ⟨w8.heap.size, 6, none⟩ = some (.bool (a.o 6)) ∧ w'.cell? ⟨w8.heap.size, 7, none⟩ = some (.slice aRz (a.un a).nr cRz) ∧ w'.cell? ⟨w8.heap.size, 8, none⟩ = some (.slice aDz (a.un a).nd cDz) ∧ w'.cell? ⟨w.heap.size, 0, none⟩ = some (.bool (a.o 0)) ∧ w'.cell? ⟨w.heap.size, 1, none⟩ = some (.bool (a.o 1)) ∧ w'.cell? ⟨w.heap.size, 2, none⟩ = some (.bool (a.o 2)) ∧ w'.cell? ⟨w.heap.size, 3, none⟩ = some (.bool (a.o 3)) ∧ w'.cell? ⟨w.heap.size, 4, none⟩ = some (.bool (a.o 4)) ∧ w'.cell? ⟨w.heap.size, 5, none⟩ = some (.bool (a.o 5)) ∧ w'.cell? ⟨w.heap.size, 6, none⟩ = some (.bool (a.o 6)) ∧ w'.cell? ⟨w.heap.size, 7, none⟩ = some (.slice aRa a.nr cRa) ∧ w'.cell? ⟨w.heap.size, 8, none⟩ = some (.slice aDa a.nd cDa) ∧ Held w [.cell (w8.heap.size) 0 (.bool (a.o 0)), .cell (w8.heap.size) 1 (.bool (a.o 1)), .cell (w8.heap.size) 2 (.bool (a.o 2)), .cell (w8.heap.size) 3 (.bool (a.o 3)), .cell (w8.heap.size) 4 (.bool (a.o 4)), .cell (w8.heap.size) 5 (.bool (a.o 5)), .cell (w8.heap.size) 6 (.bool (a.o 6)), .cell (w8.heap.size) 7 (.slice aRz (a.un a).nr cRz), .cell (w8.heap.size) 8 (.slice aDz (a.un a).nd cDz), .free (w8.heap.size) 0, .free (w8.heap.size) 1, .free (w8.heap.size) 2, .free (w8.heap.size) 3, .free (w8.heap.size) 4, .free (w8.heap.size) 5, .free (w8.heap.size) 6, .free (w8.heap.size) 7, .free (w8.heap.size) 8, calF (a.un a) aRz cRz aDz cDz, .cell (w7.heap.size) 0 (.bool (b.o 0 || a.o 0)), .cell (w7.heap.size) 1 (.bool (b.o 1 || a.o 1)), .cell (w7.heap.size) 2 (.bool (b.o 2 || a.o 2)), .cell (w7.heap.size) 3 (.bool (b.o 3 || a.o 3)), .cell (w7.heap.size) 4 (.bool (b.o 4 || a.o 4)), .cell (w7.heap.size) 5 (.bool (b.o 5 || a.o 5)), .cell (w7.heap.size) 6 (.bool (b.o 6 || a.o 6)), .cell (w7.heap.size) 7 (.slice aRy (b.un a).nr cRy), .cell (w7.heap.size) 8 (.slice aDy (b.un a).nd cDy), .free (w7.heap.size) 0, .free (w7.heap.size) 1, .free (w7.heap.size) 2, .free (w7.heap.size) 3, .free (w7.heap.size) 4, .free (w7.heap.size) 5, .free (w7.heap.size) 6, .free (w7.heap.size) 7, .free (w7.heap.size) 8, calF (b.un a) aRy cRy aDy cDy, .cell (w6.heap.size) 0 (.bool (a.o 0 || b.o 0)), .cell (w6.heap.size) 1 (.bool (a.o 1 || b.o 1)), .cell (w6.heap.size) 2 (.bool (a.o 2 || b.o 2)), .cell (w6.heap.size) 3 (.bool (a.o 3 || b.o 3)), .cell (w6.heap.size) 4 (.bool (a.o 4 || b.o 4)), .cell (w6.heap.size) 5 (.bool (a.o 5 || b.o 5)), .cell (w6.heap.size) 6 (.bool (a.o 6 || b.o 6)), .cell (w6.heap.size) 7 (.slice aRx (a.un b).nr cRx), .cell (w6.heap.size) 8 (.slice aDx (a.un b).nd cDx), .free (w6.heap.size) 0, .free (w6.heap.size) 1, .free (w6.heap.size) 2, .free (w6.heap.size) 3, .free (w6.heap.size) 4, .free (w6.heap.size) 5, .free (w6.heap.size) 6, .free (w6.heap.size) 7, .free (w6.heap.size) 8, calF (a.un b) aRx cRx aDx cDx, .cell (w.heap.size + 1) 0 (.bool (b.o 0)), .cell (w.heap.size + 1) 1 (.bool (b.o 1)), .cell (w.heap.size + 1) 2 (.bool (b.o 2)), .cell (w.heap.size + 1) 3 (.bool (b.o 3)), .cell (w.heap.size + 1) 4 (.bool (b.o 4)), .cell (w.heap.size + 1) 5 (.bool (b.o 5)), .cell (w.heap.size + 1) 6 (.bool (b.o 6)), .cell (w.heap.size + 1) 7 (.slice aRb b.nr cRb), .cell (w.heap.size + 1) 8 (.slice aDb b.nd cDb), .free (w.heap.size + 1) 0, .free (w.heap.size + 1) 1, .free (w.heap.size + 1) 2, .free (w.heap.size + 1) 3, .free (w.heap.size + 1) 4, .free (w.heap.size + 1) 5, .free (w.heap.size + 1) 6, .free (w.heap.size + 1) 7, .free (w.heap.size + 1) 8, .cell (w.heap.size) 0 (.bool (a.o 0)), .cell (w.heap.size) 1 (.bool (a.o 1)), .cell (w.heap.size) 2 (.bool (a.o 2)), .cell (w.heap.size) 3 (.bool (a.o 3)), .cell (w.heap.size) 4 (.bool (a.o 4)), .cell (w.heap.size) 5 (.bool (a.o 5)), .cell (w.heap.size) 6 (.bool (a.o 6)), .cell (w.heap.size) 7 (.slice aRa a.nr cRa), .cell (w.heap.size) 8 (.slice aDa a.nd cDa), .free (w.heap.size) 0, .free (w.heap.size) 1, .free (w.heap.size) 2, .free (w.heap.size) 3, .free (w.heap.size) 4, .free (w.heap.size) 5, .free (w.heap.size) 6, .free (w.heap.size) 7, .free (w.heap.size) 8, calF b aRb cRb aDb cDb, calF a aRa cRa aDa cDa, factsVF] w') (by kernel_rfl) (KS.out _ H.drew) (fun hHeld => ?_)
  clear H
  refine wpAnyH_take (i := 0) (oi := ⟨some 53, _, _, _, _, _⟩) (v := ?_) rfl (by kernel_rfl) (by kernel_rfl) (by kernel_rfl) (fun _ _ _ h => h) (Or.inl ⟨by rfl, ?_⟩) (by assumption) ?_
  rotate_left
  · intro w hSw; (try dsimp only at hSw); go_simp; try with_reducible rfl
  simp only [Act.put, List.setIfInBounds_toArray, List.set_cons_zero, List.set_cons_succ]
  refine wpAnyH_take (i := 1) (oi := ⟨some 54, _, _, _, _, _⟩) (v := ?_) rfl (by kernel_rfl) (by kernel_rfl) (by kernel_rfl) (fun _ _ _ h => h) (Or.inl ⟨by rfl, ?_⟩) (by assumption) ?_
  rotate_left
  · intro w hSw; (try dsimp only at hSw); go_simp; try with_reducible rfl
  simp only [Act.put, List.setIfInBounds_toArray, List.set_cons_zero, List.set_cons_succ]
  refine wpAnyH_take (i := 2) (oi := ⟨some 55, _, _, _, _, _⟩) (v := ?_) rfl (by kernel_rfl) (by kernel_rfl) (by kernel_rfl) (fun _ _ _ h => h) (Or.inl ⟨by rfl, ?_⟩) (by assumption) ?_
  rotate_left
  · intro w hSw; (try dsimp only at hSw); go_simp; try with_reducible rfl
  simp only [Act.put, List.setIfInBounds_toArray, List.set_cons_zero, List.set_cons_succ]
  refine wpAnyH_take (i := 3) (oi := ⟨some 56, _, _, _, _, _⟩) (v := ?_) rfl (by kernel_rfl) (by kernel_rfl) (by kernel_rfl) (fun _ _ _ h => h) (Or.inl ⟨by rfl, ?_⟩) (by assumption) ?_
  rotate_left
  · intro w hSw; (try dsimp only at hSw); go_simp; try with_reducible rfl
  simp only [Act.put, List.setIfInBounds_toArray, List.set_cons_zero, List.set_cons_succ]
  refine wpAnyH_take (i := 4) (oi := ⟨some 57, _, _, _, _, _⟩) (v := ?_) rfl (by kernel_rfl) (by kernel_rfl) (by kernel_rfl) (fun _ _ _ h => h) (Or.inl ⟨by rfl, ?_⟩) (by assumption) ?_
  rotate_left
  · intro w hSw; (try dsimp only at hSw); go_simp; try with_reducible rfl
  simp only [Act.put, List.setIfInBounds_toArray, List.set_cons_zero, List.set_cons_succ]
  refine wpAnyH_take (i := 5) (oi := ⟨some 58, _, _, _, _, _⟩) (v := ?_) rfl (by kernel_rfl) (by kernel_rfl) (by kernel_rfl) (fun _ _ _ h => h) (Or.inl ⟨by rfl, ?_⟩) (by assumption) ?_
  rotate_left
  · intro w hSw; (try dsimp only at hSw); go_simp; try with_reducible rfl
  simp only [Act.put, List.setIfInBounds_toArray, List.set_cons_zero, List.set_cons_succ]
  refine wpAnyH_take (i := 6) (oi := ⟨some 59, _, _, _, _, _⟩) (v := ?_) rfl (by kernel_rfl) (by kernel_rfl) (by kernel_rfl) (fun _ _ _ h => h) (Or.inl ⟨by rfl, ?_⟩) (by assumption) ?_
  rotate_left
  · intro w hSw; (try dsimp only at hSw); go_simp; try with_reducible rfl
  simp only [Act.put, List.setIfInBounds_toArray, List.set_cons_zero, List.set_cons_succ]
  refine wpAnyH_take (i := 7) (oi := ⟨some 60, _, _, _, _, _⟩) (v := ?_) rfl (by kernel_rfl) (by kernel_rfl) (by kernel_rfl) (fun _ _ _ h => h) (Or.inl ⟨by rfl, ?_⟩) (by assumption) ?_
  rotate_left
  · intro w hSw; (try dsimp only at hSw); go_simp; try with_reducible rfl
  simp only [Act.put, List.setIfInBounds_toArray, List.set_cons_zero, List.set_cons_succ]
  refine wpAnyH_take (i := 8) (oi := ⟨some 61, _, _, _, _, _⟩) (v := ?_) rfl (by kernel_rfl) (by kernel_rfl) (by kernel_rfl) (fun _ _ _ h => h) (Or.inl ⟨by rfl, ?_⟩) (by assumption) ?_
  rotate_left
  · intro w hSw; (try dsimp only at hSw); go_simp; try with_reducible rfl
  simp only [Act.put, List.setIfInBounds_toArray, List.set_cons_zero, List.set_cons_succ]
  refine wpAnyH_take (i := 9) (oi := ⟨some 62, _, _, _, _, _⟩) (v := ?_) rfl (by kernel_rfl) (by kernel_rfl) (by kernel_rfl) (fun _ _ _ h => h) (Or.inl ⟨by rfl, ?_⟩) (by assumption) ?_
  rotate_left
  · intro w hSw; (try dsimp only at hSw); go_simp; try with_reducible rfl
  simp only [Act.put, List.setIfInBounds_toArray, List.set_cons_zero, List.set_cons_succ]
  refine wpAnyH_take (i := 11) (oi := ⟨some 64, _, _, _, _, _⟩) (v := ?_) rfl (by kernel_rfl) (by kernel_rfl) (by kernel_rfl) (fun _ _ _ h => h) (Or.inl ⟨by rfl, ?_⟩) (by assumption) ?_
  rotate_left
  · intro w hSw; (try dsimp only at hSw); go_simp; try with_reducible rfl
  simp only [Act.put, List.setIfInBounds_toArray, List.set_cons_zero, List.set_cons_succ]
  refine wpAnyH_take (i := 12) (oi := ⟨some 65, _, _, _, _, _⟩) (v := ?_) rfl (by kernel_rfl) (by kernel_rfl) (by kernel_rfl) (fun _ _ _ h => h) (Or.inl ⟨by rfl, ?_⟩) (by assumption) ?_
  rotate_left
  · intro w hSw; (try dsimp only at hSw); go_simp; try with_reducible rfl
  simp only [Act.put, List.setIfInBounds_toArray, List.set_cons_zero, List.set_cons_succ]
  refine wpAnyH_ready (rs := [10]) (by kernel_rfl) (by simp) ?_
  refine AllReadyH.cons (o := ⟨some 63, _, _, _, _, _⟩) rfl (fun KK hK => ?_) AllReadyH.nil
  go_simp
  have H := KH.out _ hHeld
  (with_reducible refine (qiz K a aRz cRz aDz cDz n false _ (H.factsV (mt32 (mt32 (mt8 (mt8 (mt8 (mt1 (mt1 (mt1 (mt1 (mt1 (mt1 (mt1 mh))))))))))))) MZ.out (H.cal (mt8 (mt8 (mt1 (mt1 mh))))) ⟨fun g => absurd g (by decide), fun g => absurd g HP.out⟩).mono ?_)
  rintro e w' ⟨rfl, hb⟩
  go_wp2_with fail
  refine hK.out _ _ ?_ (fun hNew => ?_)
  · exact KS.out _ (Held.below H hb)
  clear hK KK hHeld H hb
  have hHeld := hNew
  clear hNew
  try simp only [Act.put, List.setIfInBounds_toArray, List.set_cons_zero, List.set_cons_succ]
  refine wpAnyH_ready (rs := [13]) (by kernel_rfl) (by simp) ?_
  refine AllReadyH.cons (o := ⟨some 66, _, _, _, _, _⟩) rfl (fun KK hK => ?_) AllReadyH.nil
  go_simp
  have H := KH.out _ hHeld
  (with_reducible refine (K.is a aRa cRa aDa cDa n false _ (H.factsV (mt32 (mt32 (mt8 (mt8 (mt8 (mt1 (mt1 (mt1 (mt1 (mt1 (mt1 (mt1 mh))))))))))))) MA.out (H.cal (mt32 (mt32 (mt8 (mt8 (mt8 (mt1 (mt1 (mt1 (mt1 (mt1 (mt1 mh)))))))))))) ⟨fun g => absurd g (by decide), fun g => absurd g HP.out⟩).mono ?_)
  rintro e w' ⟨rfl, hb⟩
  go_wp2_with fail
  refine hK.out _ _ ?_ (fun hNew => ?_)
  · exact KS.out _ (Held.below H hb)
  clear hK KK hHeld H hb
  have hHeld := hNew
  clear hNew
  try simp only [Act.put, List.setIfInBounds_toArray, List.set_cons_zero, List.set_cons_succ]
  refine wpAnyH_take (i := 14) (oi := ⟨some 67, _, _, _, _, _⟩) (v := ?_) rfl (by kernel_rfl) (by kernel_rfl) (by kernel_rfl) (fun _ _ _ h => h) (Or.inl ⟨by rfl, ?_⟩) (by assumption) ?_
  rotate_left
  · intro w hSw; (try dsimp only at hSw); go_simp; try with_reducible rfl
  simp only [Act.put, List.setIfInBounds_toArray, List.set_cons_zero, List.set_cons_succ]
  refine wpAnyH_take (i := 15) (oi := ⟨some 68, _, _, _, _, _⟩) (v := ?_) rfl (by kernel_rfl) (by kernel_rfl) (by kernel_rfl) (fun _ _ _ h => h) (Or.inl ⟨by rfl, ?_⟩) (by assumption) ?_
  rotate_left
  · intro w hSw; (try dsimp only at hSw); go_simp; try with_reducible rfl
  simp only [Act.put, List.setIfInBounds_toArray, List.set_cons_zero, List.set_cons_succ]
  refine wpAnyH_done (by kernel_rfl) ?_ _
  have H := KH.out _ hHeld
  clear KS KH hHeld
  have ca0 := H.cell (w.heap.size) 0 (.bool (a.o 0)) (mt32 (mt32 (mt8 (mt1 (mt1 (mt1 mh))))))
  have ca1 := H.cell (w.heap.size) 1 (.bool (a.o 1)) (mt32 (mt32 (mt8 (mt1 (mt1 (mt1 (mt1 mh)))))))
  have ca2 := H.cell (w.heap.size) 2 (.bool (a.o 2)) (mt32 (mt32 (mt8 (mt1 (mt1 (mt1 (mt1 (mt1 mh))))))))
  have ca3 := H.cell (w.heap.size) 3 (.bool (a.o 3)) (mt32 (mt32 (mt8 (mt1 (mt1 (mt1 (mt1 (mt1 (mt1 mh)))))))))
  have ca4 := H.cell (w.heap.size) 4 (.bool (a.o 4)) (mt32 (mt32 (mt8 (mt1 (mt1 (mt1 (mt1 (mt1 (mt1 (mt1 mh))))))))))
  have ca5 := H.cell (w.heap.size) 5 (.bool (a.o 5)) (mt32 (mt32 (mt8 (mt8 mh))))
  have ca6 := H.cell (w.heap.size) 6 (.bool (a.o 6)) (mt32 (mt32 (mt8 (mt8 (mt1 mh)))))
  have ca7 := H.cell (w.heap.size) 7 (.slice aRa a.nr cRa) (mt32 (mt32 (mt8 (mt8 (mt1 (mt1 mh))))))
  have ca8 := H.cell (w.heap.size) 8 (.slice aDa a.nd cDa) (mt32 (mt32 (mt8 (mt8 (mt1 (mt1 (mt1 mh)))))))
  have la := H.lt (w.heap.size) 0 (.bool (a.o 0)) (mt32 (mt32 (mt8 (mt1 (mt1 (mt1 mh))))))
  go_wp2_with fail
  clear ca0 ca1 ca2 ca3 ca4 ca5 ca6 ca7 ca8 la
  (with_reducible refine (K.is a aRa cRa aDa cDa n false _ (H.factsV (mt32 (mt32 (mt8 (mt8 (mt8 (mt1 (mt1 (mt1 (mt1 (mt1 (mt1 (mt1 mh))))))))))))) MA.out (H.cal (mt32 (mt32 (mt8 (mt8 (mt8 (mt1 (mt1 (mt1 (mt1 (mt1 (mt1 mh)))))))))))) ⟨fun g => absurd g (by decide), fun g => absurd g HP.out⟩).mono ?_)
  rintro e w9 ⟨rfl, hb⟩
  replace H := H.below hb
  clear hb
  have cx0 := H.cell (w6.heap.size) 0 (.bool (a.o 0 || b.o 0)) (mt32 (mt1 (mt1 (mt1 (mt1 (mt1 (mt1 mh)))))))
  have cx1 := H.cell (w6.heap.size) 1 (.bool (a.o 1 || b.o 1)) (mt32 (mt1 (mt1 (mt1 (mt1 (mt1 (mt1 (mt1 mh))))))))
  have cx2 := H.cell (w6.heap.size) 2 (.bool (a.o 2 || b.o 2)) (mt32 (mt8 mh))
  have cx3 := H.cell (w6.heap.size) 3 (.bool (a.o 3 || b.o 3)) (mt32 (mt8 (mt1 mh)))
  have cx4 := H.cell (w6.heap.size) 4 (.bool (a.o 4 || b.o 4)) (mt32 (mt8 (mt1 (mt1 mh))))
  have cx5 := H.cell (w6.heap.size) 5 (.bool (a.o 5 || b.o 5)) (mt32 (mt8 (mt1 (mt1 (mt1 mh)))))
  have cx6 := H.cell (w6.heap.size) 6 (.bool (a.o 6 || b.o 6)) (mt32 (mt8 (mt1 (mt1 (mt1 (mt1 mh))))))
  have cx7 := H.cell (w6.heap.size) 7 (.slice aRx (a.un b).nr cRx) (mt32 (mt8 (mt1 (mt1 (mt1 (mt1 (mt1 mh)))))))
  have cx8 := H.cell (w6.heap.size) 8 (.slice aDx (a.un b).nd cDx) (mt32 (mt8 (mt1 (mt1 (mt1 (mt1 (mt1 (mt1 mh))))))))
  have lx := H.lt (w6.heap.size) 0 (.bool (a.o 0 || b.o 0)) (mt32 (mt1 (mt1 (mt1 (mt1 (mt1 (mt1 mh)))))))
  go_wp2_with fail
  clear cx0 cx1 cx2 cx3 cx4 cx5 cx6 cx7 cx8 lx
  (with_reducible refine (qmu K a b aRx cRx aDx cDx _ (H.factsV (mt32 (mt32 (mt8 (mt8 (mt8 (mt1 (mt1 (mt1 (mt1 (mt1 (mt1 (mt1 mh))))))))))))) (un_small EA.out EB.out) MX.out (H.cal (mt32 (mt8 (mt8 (mt8 mh)))))).mono ?_)
  rintro e w10 ⟨rfl, hb⟩
  replace H := H.below hb
  clear hb
  have cx0 := H.cell (w6.heap.size) 0 (.bool (a.o 0 || b.o 0)) (mt32 (mt1 (mt1 (mt1 (mt1 (mt1 (mt1 mh)))))))
  have cx1 := H.cell (w6.heap.size) 1 (.bool (a.o 1 || b.o 1)) (mt32 (mt1 (mt1 (mt1 (mt1 (mt1 (mt1 (mt1 mh))))))))
  have cx2 := H.cell (w6.heap.size) 2 (.bool (a.o 2 || b.o 2)) (mt32 (mt8 mh))
  have cx3 := H.cell (w6.heap.size) 3 (.bool (a.o 3 || b.o 3)) (mt32 (mt8 (mt1 mh)))
  have cx4 := H.cell (w6.heap.size) 4 (.bool (a.o 4 || b.o 4)) (mt32 (mt8 (mt1 (mt1 mh))))
  have cx5 := H.cell (w6.heap.size) 5 (.bool (a.o 5 || b.o 5)) (mt32 (mt8 (mt1 (mt1 (mt1 mh)))))
  have cx6 := H.cell (w6.heap.size) 6 (.bool (a.o 6 || b.o 6)) (mt32 (mt8 (mt1 (mt1 (mt1 (mt1 mh))))))
  have cx7 := H.cell (w6.heap.size) 7 (.slice aRx (a.un b).nr cRx) (mt32 (mt8 (mt1 (mt1 (mt1 (mt1 (mt1 mh)))))))
  have cx8 := H.cell (w6.heap.size) 8 (.slice aDx (a.un b).nd cDx) (mt32 (mt8 (mt1 (mt1 (mt1 (mt1 (mt1 (mt1 mh))))))))
  have lx := H.lt (w6.heap.size) 0 (.bool (a.o 0 || b.o 0)) (mt32 (mt1 (mt1 (mt1 (mt1 (mt1 (mt1 mh)))))))
  go_wp2_with fail
  clear cx0 cx1 cx2 cx3 cx4 cx5 cx6 cx7 cx8 lx
  (with_reducible refine (qiu K a b aRx cRx aDx cDx n false _ (H.factsV (mt32 (mt32 (mt8 (mt8 (mt8 (mt1 (mt1 (mt1 (mt1 (mt1 (mt1 (mt1 mh))))))))))))) MX.out (H.cal (mt32 (mt8 (mt8 (mt8 mh))))) ⟨fun g => absurd g (by decide), fun g => absurd g HR.out⟩).mono ?_)
  rintro e w11 ⟨rfl, hb⟩
  replace H := H.below hb
  clear hb
  have cy0 := H.cell (w7.heap.size) 0 (.bool (b.o 0 || a.o 0)) (mt8 (mt8 (mt1 (mt1 (mt1 mh)))))
  have cy1 := H.cell (w7.heap.size) 1 (.bool (b.o 1 || a.o 1)) (mt8 (mt8 (mt1 (mt1 (mt1 (mt1 mh))))))
  have cy2 := H.cell (w7.heap.size) 2 (.bool (b.o 2 || a.o 2)) (mt8 (mt8 (mt1 (mt1 (mt1 (mt1 (mt1 mh)))))))
  have cy3 := H.cell (w7.heap.size) 3 (.bool (b.o 3 || a.o 3)) (mt8 (mt8 (mt1 (mt1 (mt1 (mt1 (mt1 (mt1 mh))))))))
  have cy4 := H.cell (w7.heap.size) 4 (.bool (b.o 4 || a.o 4)) (mt8 (mt8 (mt1 (mt1 (mt1 (mt1 (mt1 (mt1 (mt1 mh)))))))))
  have cy5 := H.cell (w7.heap.size) 5 (.bool (b.o 5 || a.o 5)) (mt8 (mt8 (mt8 mh)))
  have cy6 := H.cell (w7.heap.size) 6 (.bool (b.o 6 || a.o 6)) (mt8 (mt8 (mt8 (mt1 mh))))
  have cy7 := H.cell (w7.heap.size) 7 (.slice aRy (b.un a).nr cRy) (mt8 (mt8 (mt8 (mt1 (mt1 mh)))))
  have cy8 := H.cell (w7.heap.size) 8 (.slice aDy (b.un a).nd cDy) (mt8 (mt8 (mt8 (mt1 (mt1 (mt1 mh))))))
  have ly := H.lt (w7.heap.size) 0 (.bool (b.o 0 || a.o 0)) (mt8 (mt8 (mt1 (mt1 (mt1 mh)))))
  go_wp2_with fail
  clear cy0 cy1 cy2 cy3 cy4 cy5 cy6 cy7 cy8 ly
  (with_reducible refine (qiu K b a aRy cRy aDy cDy n false _ (H.factsV (mt32 (mt32 (mt8 (mt8 (mt8 (mt1 (mt1 (mt1 (mt1 (mt1 (mt1 (mt1 mh))))))))))))) MY.out (H.cal (mt32 (mt1 (mt1 (mt1 (mt1 (mt1 mh))))))) ⟨fun g => absurd g (by decide), fun g => absurd g HS2.out⟩).mono ?_)
  rintro e w12 ⟨rfl, hb⟩
  replace H := H.below hb
  clear hb
  go_wp2_with fail
  go_ret
  exact ⟨rfl, H.old⟩

theorem caboth_walk (K : CalWay) (a : Ca) (aRa : Option Addr) (cRa : Nat) (aDa : Option Addr) (cDa : Nat) (b : Ca) (aRb : Option Addr) (cRb : Nat) (aDb : Option Addr) (cDb : Nat) (n : Int) (w : World) (hL : FactsV w) (hA : CalAt w a aRa cRa aDa cDa) (hB : CalAt w b aRb cRb aDb cDb) (bn : -9223372036854775808 ≤ n ∧ n < 9223372036854775808) :
    Calls Tryd.prog 5 #[.agg #[.bool (a.o 0), .bool (a.o 1), .bool (a.o 2), .bool (a.o 3), .bool (a.o 4), .bool (a.o 5), .bool (a.o 6), .slice aRa a.nr cRa, .slice aDa a.nd cDa], .agg #[.bool (b.o 0), .bool (b.o 1), .bool (b.o 2), .bool (b.o 3), .bool (b.o 4), .bool (b.o 5), .bool (b.o 6), .slice aRb b.nr cRb, .slice aDb b.nd cDb], .int .i64 n] w fun e w' => e = .returned (.bool true) ∧ Below w.heap.size w w' := by
  by_cases fa : a.Few
  · by_cases fb : b.Few
    · by_cases ma : a.May
      · by_cases mb : b.May
        · have mz : (a.un a).May := (few_un fa fa ma ma).2 (by obtain ⟨i, hi, g⟩ := ma.1; exact ⟨i, hi, by rw [g]; rfl⟩)
          have cm : (a.un b).May ↔ (b.un a).May := by
            rw [few_un fa fb ma mb, few_un fb fa mb ma]
            constructor
            · rintro ⟨i, hi, g⟩; exact ⟨i, hi, by rw [Bool.or_comm]; exact g⟩
            · rintro ⟨i, hi, g⟩; exact ⟨i, hi, by rw [Bool.or_comm]; exact g⟩
          by_cases mx : (a.un b).May
          · obtain ⟨q, hq⟩ := bool_of (b.Is n)
            by_cases hp : a.Is n
            · exact caboth_yt K a aRa cRa aDa cDa b aRb cRb aDb cDb n w hL hA hB (decide_eq_true fa) (decide_eq_true fb) fa.small fb.small fa fb ma mb mz hp mx (cm.1 mx) q hq (hq.trans ⟨fun g => ⟨hp, g⟩, fun g => g.2⟩) (hq.trans ⟨fun g => ⟨g, hp⟩, fun g => g.1⟩)
            · exact caboth_yf K a aRa cRa aDa cDa b aRb cRb aDb cDb n w hL hA hB (decide_eq_true fa) (decide_eq_true fb) fa.small fb.small fa fb ma mb mz hp mx (cm.1 mx) q hq (fun g => hp g.1) (fun g => hp g.2)
          · by_cases hp : a.Is n
            · exact caboth_nt K a aRa cRa aDa cDa b aRb cRb aDb cDb n w hL hA hB (decide_eq_true fa) (decide_eq_true fb) fa.small fb.small fa fb ma mb mz hp mx (fun g => mx (cm.2 g))
            · exact caboth_nf K a aRa cRa aDa cDa b aRb cRb aDb cDb n w hL hA hB (decide_eq_true fa) (decide_eq_true fb) fa.small fb.small fa fb ma mb mz hp mx (fun g => mx (cm.2 g))
        · exact caboth_4 K a aRa cRa aDa cDa b aRb cRb aDb cDb n w hL hA hB (decide_eq_true fa) (decide_eq_true fb) fa.small fb.small ma mb
      · exact caboth_3 K a aRa cRa aDa cDa b aRb cRb aDb cDb n w hL hA hB (decide_eq_true fa) (decide_eq_true fb) fa.small fb.small ma
    · exact caboth_2 K a aRa cRa aDa cDa b aRb cRb aDb cDb n w hL hA hB (decide_eq_true fa) (decide_eq_false fb)
  · exact caboth_1 K a aRa cRa aDa cDa b aRb cRb aDb cDb n w hL hA hB (decide_eq_false fa)
end Go.Proofs.YtkadodkdbopgnaaDoor
