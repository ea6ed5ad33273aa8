/- ThirtyEnds: the walk. -/
import Derived.Test.YtkmjaoiehmddcaaDoorTyShown
namespace Go.Proofs.YtkmjaoiehmddcaaDoor
open Go.RowKit
set_option linter.unusedVariables false
set_option linter.unusedSimpArgs false

set_option maxHeartbeats 4000000 in
set_option maxRecDepth 100000 in
theorem tends_out (K : Ways) (n k m z c x o : Int) (w : World) (hL : Lens w) (hk : 0 ≤ k ∧ k < 65536) (hm : k % 401 = m) (h : EndIs n z c) (hv : MoveIs z m true x o) (hc : c = 3 ∨ c = 0 ∧ o = 3) :
    Calls Tryd.prog 8 #[.int .i64 n, .int .u16 k] w fun e w' => e = .returned (.bool true) ∧ Below w.heap.size w w' := by
  have H := (Held.start w).add (f := lensF) hL
  clear hL
  have HM := Lib.hid hm
  have hm2 : 0 ≤ m ∧ m ≤ 400 := by omega
  clear hm
  have E1 := Lib.hid h
  have V1 := Lib.hid hv
  clear h hv
  go_enter Tryd.func8, Tryd.ntmps8
  go_wp2_with fail
  (with_reducible refine (tshown_any K _ (H.lens (List.Mem.head _))).mono ?_)
  rintro e w1 ⟨rfl, hb⟩
  replace H := H.below hb
  clear hb
  rcases hc with rfl | ⟨rfl, rfl⟩
  · go_wp2_with fail
    (with_reducible refine (rend_any n z 3 _ E1.out).mono ?_)
    rintro e w2 ⟨rfl, hb⟩
    replace H := H.below hb
    clear hb
    go_wp2_with fail
    rw [HM.out]
    (with_reducible refine (rmove_any z m x o true _ V1.out).mono ?_)
    rintro e w3 ⟨rfl, hb⟩
    replace H := H.below hb
    clear hb
    go_wp2_with fail
    go_ret
    exact ⟨rfl, H.old⟩
  · go_wp2_with fail
    (with_reducible refine (rend_any n z 0 _ E1.out).mono ?_)
    rintro e w2 ⟨rfl, hb⟩
    replace H := H.below hb
    clear hb
    go_wp2_with fail
    rw [HM.out]
    (with_reducible refine (rmove_any z m x 3 true _ V1.out).mono ?_)
    rintro e w3 ⟨rfl, hb⟩
    replace H := H.below hb
    clear hb
    go_wp2_with fail
    go_ret
    exact ⟨rfl, H.old⟩

set_option maxHeartbeats 4000000 in
set_option maxRecDepth 100000 in
theorem tends_1 (K : Ways) (n k m z x p q y1 m1 d1 y2 m2 d2 : Int) (w : World) (hL : Lens w) (hk : 0 ≤ k ∧ k < 65536) (hm : k % 401 = m) (he : EndIs n z 0) (hv : MoveIs z m true x 0) (hw : rN m 12 = p ∧ rD m 12 = q ∧ rE m 12 = 0) (hi : PartIs (iX (decide (x = 0))) z x p q 0) (hu : PartIs (uX true) z x p q 0) (hz : DayIs z y1 m1 d1 0) (hx : DayIs x y2 m2 d2 0) (n1 : m1 = 2) :
    Calls Tryd.prog 8 #[.int .i64 n, .int .u16 k] w fun e w' => e = .returned (.bool true) ∧ Below w.heap.size w w' := by
  have H := (Held.start w).add (f := lensF) hL
  clear hL
  have HM := Lib.hid hm
  have hm2 : 0 ≤ m ∧ m ≤ 400 := by omega
  clear hm
  have E1 := Lib.hid he
  have V1 := Lib.hid hv
  have W1 := Lib.hid hw
  have J1 := Lib.hid hi
  have U1 := Lib.hid hu
  have O1 := Lib.hid hz
  have O2 := Lib.hid hx
  clear he hv hw hi hu hz hx
  have e1 : (m1 != 2) = false := by simpa using n1
  clear n1
  go_enter Tryd.func8, Tryd.ntmps8
  go_wp2_with fail
  (with_reducible refine (tshown_any K _ (H.lens (List.Mem.head _))).mono ?_)
  rintro e w1 ⟨rfl, hb⟩
  replace H := H.below hb
  clear hb
  go_wp2_with fail
  (with_reducible refine (rend_any n z 0 _ E1.out).mono ?_)
  rintro e w2 ⟨rfl, hb⟩
  replace H := H.below hb
  clear hb
  go_wp2_with fail
  rw [HM.out]
  (with_reducible refine (rmove_any z m x 0 true _ V1.out).mono ?_)
  rintro e w3 ⟨rfl, hb⟩
  replace H := H.below hb
  clear hb
  go_wp2_with fail
  (with_reducible refine (refnew_is m 12 p q 0 _ hm2.1 (by omega) (by decide) (by decide) W1.out).mono ?_)
  rintro e w4 ⟨rfl, hb⟩
  replace H := H.below hb
  clear hb
  go_wp2_with fail
  replace H := (H.pair (w4.heap.size) (.int .i64 p) (.int .i64 q) 26 rfl)
  (with_reducible refine (K.isda z x 0 p q 0 _ (H.lens (List.Mem.tail _ (List.Mem.tail _ (List.Mem.tail _ (List.Mem.tail _ (List.Mem.head _)))))) J1.out).mono ?_)
  rintro e w5 ⟨rfl, hb⟩
  replace H := H.below hb
  clear hb
  have ca0 := H.cell (w4.heap.size) 0 (.int .i64 p) (List.Mem.head _)
  have ca1 := H.cell (w4.heap.size) 1 (.int .i64 q) (List.Mem.tail _ (List.Mem.head _))
  have la := H.lt (w4.heap.size) 0 (.int .i64 p) (List.Mem.head _)
  go_wp2_with fail
  clear ca0 ca1 la
  replace H := (H.pair (w5.heap.size) (.int .i64 p) (.int .i64 q) 26 rfl)
  (with_reducible refine (K.us z x p q 0 true _ (H.lens (List.Mem.tail _ (List.Mem.tail _ (List.Mem.tail _ (List.Mem.tail _ (List.Mem.tail _ (List.Mem.tail _ (List.Mem.tail _ (List.Mem.tail _ (List.Mem.head _)))))))))) U1.out).mono ?_)
  rintro e w6 ⟨rfl, hb⟩
  replace H := H.below hb
  clear hb
  have ca0 := H.cell (w4.heap.size) 0 (.int .i64 p) (List.Mem.tail _ (List.Mem.tail _ (List.Mem.tail _ (List.Mem.tail _ (List.Mem.head _)))))
  have ca1 := H.cell (w4.heap.size) 1 (.int .i64 q) (List.Mem.tail _ (List.Mem.tail _ (List.Mem.tail _ (List.Mem.tail _ (List.Mem.tail _ (List.Mem.head _))))))
  have la := H.lt (w4.heap.size) 0 (.int .i64 p) (List.Mem.tail _ (List.Mem.tail _ (List.Mem.tail _ (List.Mem.tail _ (List.Mem.head _)))))
  have cb0 := H.cell (w5.heap.size) 0 (.int .i64 p) (List.Mem.head _)
  have cb1 := H.cell (w5.heap.size) 1 (.int .i64 q) (List.Mem.tail _ (List.Mem.head _))
  have lb := H.lt (w5.heap.size) 0 (.int .i64 p) (List.Mem.head _)
  go_wp2_with fail
  clear ca0 ca1 la cb0 cb1 lb
  replace H := (H.pair (w6.heap.size) (.int .i64 p) (.int .i64 q) 26 rfl)
  (with_reducible refine (rof_any z y1 m1 d1 0 _ O1.out).mono ?_)
  rintro e w7 ⟨rfl, hb⟩
  replace H := H.below hb
  clear hb
  have ca0 := H.cell (w4.heap.size) 0 (.int .i64 p) (List.Mem.tail _ (List.Mem.tail _ (List.Mem.tail _ (List.Mem.tail _ (List.Mem.tail _ (List.Mem.tail _ (List.Mem.tail _ (List.Mem.tail _ (List.Mem.head _)))))))))
  have ca1 := H.cell (w4.heap.size) 1 (.int .i64 q) (List.Mem.tail _ (List.Mem.tail _ (List.Mem.tail _ (List.Mem.tail _ (List.Mem.tail _ (List.Mem.tail _ (List.Mem.tail _ (List.Mem.tail _ (List.Mem.tail _ (List.Mem.head _))))))))))
  have la := H.lt (w4.heap.size) 0 (.int .i64 p) (List.Mem.tail _ (List.Mem.tail _ (List.Mem.tail _ (List.Mem.tail _ (List.Mem.tail _ (List.Mem.tail _ (List.Mem.tail _ (List.Mem.tail _ (List.Mem.head _)))))))))
  have cb0 := H.cell (w5.heap.size) 0 (.int .i64 p) (List.Mem.tail _ (List.Mem.tail _ (List.Mem.tail _ (List.Mem.tail _ (List.Mem.head _)))))
  have cb1 := H.cell (w5.heap.size) 1 (.int .i64 q) (List.Mem.tail _ (List.Mem.tail _ (List.Mem.tail _ (List.Mem.tail _ (List.Mem.tail _ (List.Mem.head _))))))
  have lb := H.lt (w5.heap.size) 0 (.int .i64 p) (List.Mem.tail _ (List.Mem.tail _ (List.Mem.tail _ (List.Mem.tail _ (List.Mem.head _)))))
  have ce0 := H.cell (w6.heap.size) 0 (.int .i64 p) (List.Mem.head _)
  have ce1 := H.cell (w6.heap.size) 1 (.int .i64 q) (List.Mem.tail _ (List.Mem.head _))
  have le := H.lt (w6.heap.size) 0 (.int .i64 p) (List.Mem.head _)
  go_wp2_with fail
  clear ca0 ca1 la cb0 cb1 lb ce0 ce1 le
  replace H := (H.triple (w7.heap.size) (.int .i64 y1) (.int .i64 m1) (.int .i64 d1) 41 rfl)
  (with_reducible refine (rof_any x y2 m2 d2 0 _ O2.out).mono ?_)
  rintro e w8 ⟨rfl, hb⟩
  replace H := H.below hb
  clear hb
  have ca0 := H.cell (w4.heap.size) 0 (.int .i64 p) (List.Mem.tail _ (List.Mem.tail _ (List.Mem.tail _ (List.Mem.tail _ (List.Mem.tail _ (List.Mem.tail _ (List.Mem.tail _ (List.Mem.tail _ (List.Mem.tail _ (List.Mem.tail _ (List.Mem.tail _ (List.Mem.tail _ (List.Mem.tail _ (List.Mem.tail _ (List.Mem.head _)))))))))))))))
  have ca1 := H.cell (w4.heap.size) 1 (.int .i64 q) (List.Mem.tail _ (List.Mem.tail _ (List.Mem.tail _ (List.Mem.tail _ (List.Mem.tail _ (List.Mem.tail _ (List.Mem.tail _ (List.Mem.tail _ (List.Mem.tail _ (List.Mem.tail _ (List.Mem.tail _ (List.Mem.tail _ (List.Mem.tail _ (List.Mem.tail _ (List.Mem.tail _ (List.Mem.head _))))))))))))))))
  have la := H.lt (w4.heap.size) 0 (.int .i64 p) (List.Mem.tail _ (List.Mem.tail _ (List.Mem.tail _ (List.Mem.tail _ (List.Mem.tail _ (List.Mem.tail _ (List.Mem.tail _ (List.Mem.tail _ (List.Mem.tail _ (List.Mem.tail _ (List.Mem.tail _ (List.Mem.tail _ (List.Mem.tail _ (List.Mem.tail _ (List.Mem.head _)))))))))))))))
  have cb0 := H.cell (w5.heap.size) 0 (.int .i64 p) (List.Mem.tail _ (List.Mem.tail _ (List.Mem.tail _ (List.Mem.tail _ (List.Mem.tail _ (List.Mem.tail _ (List.Mem.tail _ (List.Mem.tail _ (List.Mem.tail _ (List.Mem.tail _ (List.Mem.head _)))))))))))
  have cb1 := H.cell (w5.heap.size) 1 (.int .i64 q) (List.Mem.tail _ (List.Mem.tail _ (List.Mem.tail _ (List.Mem.tail _ (List.Mem.tail _ (List.Mem.tail _ (List.Mem.tail _ (List.Mem.tail _ (List.Mem.tail _ (List.Mem.tail _ (List.Mem.tail _ (List.Mem.head _))))))))))))
  have lb := H.lt (w5.heap.size) 0 (.int .i64 p) (List.Mem.tail _ (List.Mem.tail _ (List.Mem.tail _ (List.Mem.tail _ (List.Mem.tail _ (List.Mem.tail _ (List.Mem.tail _ (List.Mem.tail _ (List.Mem.tail _ (List.Mem.tail _ (List.Mem.head _)))))))))))
  have ce0 := H.cell (w6.heap.size) 0 (.int .i64 p) (List.Mem.tail _ (List.Mem.tail _ (List.Mem.tail _ (List.Mem.tail _ (List.Mem.tail _ (List.Mem.tail _ (List.Mem.head _)))))))
  have ce1 := H.cell (w6.heap.size) 1 (.int .i64 q) (List.Mem.tail _ (List.Mem.tail _ (List.Mem.tail _ (List.Mem.tail _ (List.Mem.tail _ (List.Mem.tail _ (List.Mem.tail _ (List.Mem.head _))))))))
  have le := H.lt (w6.heap.size) 0 (.int .i64 p) (List.Mem.tail _ (List.Mem.tail _ (List.Mem.tail _ (List.Mem.tail _ (List.Mem.tail _ (List.Mem.tail _ (List.Mem.head _)))))))
  have cc0 := H.cell (w7.heap.size) 0 (.int .i64 y1) (List.Mem.head _)
  have cc1 := H.cell (w7.heap.size) 1 (.int .i64 m1) (List.Mem.tail _ (List.Mem.head _))
  have cc2 := H.cell (w7.heap.size) 2 (.int .i64 d1) (List.Mem.tail _ (List.Mem.tail _ (List.Mem.head _)))
  have lc := H.lt (w7.heap.size) 0 (.int .i64 y1) (List.Mem.head _)
  go_wp2_with fail
  clear ca0 ca1 la cb0 cb1 lb ce0 ce1 le cc0 cc1 cc2 lc
  replace H := (H.triple (w8.heap.size) (.int .i64 y2) (.int .i64 m2) (.int .i64 d2) 41 rfl)
  go_ret
  exact ⟨rfl, H.old⟩

set_option maxHeartbeats 4000000 in
set_option maxRecDepth 100000 in
theorem tends_2 (K : Ways) (n k m z x p q y1 m1 d1 y2 m2 d2 : Int) (w : World) (hL : Lens w) (hk : 0 ≤ k ∧ k < 65536) (hm : k % 401 = m) (he : EndIs n z 0) (hv : MoveIs z m true x 0) (hw : rN m 12 = p ∧ rD m 12 = q ∧ rE m 12 = 0) (hi : PartIs (iX (decide (x = 0))) z x p q 0) (hu : PartIs (uX true) z x p q 0) (hz : DayIs z y1 m1 d1 0) (hx : DayIs x y2 m2 d2 0) (n1 : m1 ≠ 2) (n2 : m2 ≠ 2) :
    Calls Tryd.prog 8 #[.int .i64 n, .int .u16 k] w fun e w' => e = .returned (.bool true) ∧ Below w.heap.size w w' := by
  have H := (Held.start w).add (f := lensF) hL
  clear hL
  have HM := Lib.hid hm
  have hm2 : 0 ≤ m ∧ m ≤ 400 := by omega
  clear hm
  have E1 := Lib.hid he
  have V1 := Lib.hid hv
  have W1 := Lib.hid hw
  have J1 := Lib.hid hi
  have U1 := Lib.hid hu
  have O1 := Lib.hid hz
  have O2 := Lib.hid hx
  clear he hv hw hi hu hz hx
  have e1 : (m1 != 2) = true := by simpa using n1
  clear n1
  have e2 : (m2 == 2) = false := by simpa using n2
  clear n2
  go_enter Tryd.func8, Tryd.ntmps8
  go_wp2_with fail
  (with_reducible refine (tshown_any K _ (H.lens (List.Mem.head _))).mono ?_)
  rintro e w1 ⟨rfl, hb⟩
  replace H := H.below hb
  clear hb
  go_wp2_with fail
  (with_reducible refine (rend_any n z 0 _ E1.out).mono ?_)
  rintro e w2 ⟨rfl, hb⟩
  replace H := H.below hb
  clear hb
  go_wp2_with fail
  rw [HM.out]
  (with_reducible refine (rmove_any z m x 0 true _ V1.out).mono ?_)
  rintro e w3 ⟨rfl, hb⟩
  replace H := H.below hb
  clear hb
  go_wp2_with fail
  (with_reducible refine (refnew_is m 12 p q 0 _ hm2.1 (by omega) (by decide) (by decide) W1.out).mono ?_)
  rintro e w4 ⟨rfl, hb⟩
  replace H := H.below hb
  clear hb
  go_wp2_with fail
  replace H := (H.pair (w4.heap.size) (.int .i64 p) (.int .i64 q) 26 rfl)
  (with_reducible refine (K.isda z x 0 p q 0 _ (H.lens (List.Mem.tail _ (List.Mem.tail _ (List.Mem.tail _ (List.Mem.tail _ (List.Mem.head _)))))) J1.out).mono ?_)
  rintro e w5 ⟨rfl, hb⟩
  replace H := H.below hb
  clear hb
  have ca0 := H.cell (w4.heap.size) 0 (.int .i64 p) (List.Mem.head _)
  have ca1 := H.cell (w4.heap.size) 1 (.int .i64 q) (List.Mem.tail _ (List.Mem.head _))
  have la := H.lt (w4.heap.size) 0 (.int .i64 p) (List.Mem.head _)
  go_wp2_with fail
  clear ca0 ca1 la
  replace H := (H.pair (w5.heap.size) (.int .i64 p) (.int .i64 q) 26 rfl)
  (with_reducible refine (K.us z x p q 0 true _ (H.lens (List.Mem.tail _ (List.Mem.tail _ (List.Mem.tail _ (List.Mem.tail _ (List.Mem.tail _ (List.Mem.tail _ (List.Mem.tail _ (List.Mem.tail _ (List.Mem.head _)))))))))) U1.out).mono ?_)
  rintro e w6 ⟨rfl, hb⟩
  replace H := H.below hb
  clear hb
  have ca0 := H.cell (w4.heap.size) 0 (.int .i64 p) (List.Mem.tail _ (List.Mem.tail _ (List.Mem.tail _ (List.Mem.tail _ (List.Mem.head _)))))
  have ca1 := H.cell (w4.heap.size) 1 (.int .i64 q) (List.Mem.tail _ (List.Mem.tail _ (List.Mem.tail _ (List.Mem.tail _ (List.Mem.tail _ (List.Mem.head _))))))
  have la := H.lt (w4.heap.size) 0 (.int .i64 p) (List.Mem.tail _ (List.Mem.tail _ (List.Mem.tail _ (List.Mem.tail _ (List.Mem.head _)))))
  have cb0 := H.cell (w5.heap.size) 0 (.int .i64 p) (List.Mem.head _)
  have cb1 := H.cell (w5.heap.size) 1 (.int .i64 q) (List.Mem.tail _ (List.Mem.head _))
  have lb := H.lt (w5.heap.size) 0 (.int .i64 p) (List.Mem.head _)
  go_wp2_with fail
  clear ca0 ca1 la cb0 cb1 lb
  replace H := (H.pair (w6.heap.size) (.int .i64 p) (.int .i64 q) 26 rfl)
  (with_reducible refine (rof_any z y1 m1 d1 0 _ O1.out).mono ?_)
  rintro e w7 ⟨rfl, hb⟩
  replace H := H.below hb
  clear hb
  have ca0 := H.cell (w4.heap.size) 0 (.int .i64 p) (List.Mem.tail _ (List.Mem.tail _ (List.Mem.tail _ (List.Mem.tail _ (List.Mem.tail _ (List.Mem.tail _ (List.Mem.tail _ (List.Mem.tail _ (List.Mem.head _)))))))))
  have ca1 := H.cell (w4.heap.size) 1 (.int .i64 q) (List.Mem.tail _ (List.Mem.tail _ (List.Mem.tail _ (List.Mem.tail _ (List.Mem.tail _ (List.Mem.tail _ (List.Mem.tail _ (List.Mem.tail _ (List.Mem.tail _ (List.Mem.head _))))))))))
  have la := H.lt (w4.heap.size) 0 (.int .i64 p) (List.Mem.tail _ (List.Mem.tail _ (List.Mem.tail _ (List.Mem.tail _ (List.Mem.tail _ (List.Mem.tail _ (List.Mem.tail _ (List.Mem.tail _ (List.Mem.head _)))))))))
  have cb0 := H.cell (w5.heap.size) 0 (.int .i64 p) (List.Mem.tail _ (List.Mem.tail _ (List.Mem.tail _ (List.Mem.tail _ (List.Mem.head _)))))
  have cb1 := H.cell (w5.heap.size) 1 (.int .i64 q) (List.Mem.tail _ (List.Mem.tail _ (List.Mem.tail _ (List.Mem.tail _ (List.Mem.tail _ (List.Mem.head _))))))
  have lb := H.lt (w5.heap.size) 0 (.int .i64 p) (List.Mem.tail _ (List.Mem.tail _ (List.Mem.tail _ (List.Mem.tail _ (List.Mem.head _)))))
  have ce0 := H.cell (w6.heap.size) 0 (.int .i64 p) (List.Mem.head _)
  have ce1 := H.cell (w6.heap.size) 1 (.int .i64 q) (List.Mem.tail _ (List.Mem.head _))
  have le := H.lt (w6.heap.size) 0 (.int .i64 p) (List.Mem.head _)
  go_wp2_with fail
  clear ca0 ca1 la cb0 cb1 lb ce0 ce1 le
  replace H := (H.triple (w7.heap.size) (.int .i64 y1) (.int .i64 m1) (.int .i64 d1) 41 rfl)
  (with_reducible refine (rof_any x y2 m2 d2 0 _ O2.out).mono ?_)
  rintro e w8 ⟨rfl, hb⟩
  replace H := H.below hb
  clear hb
  have ca0 := H.cell (w4.heap.size) 0 (.int .i64 p) (List.Mem.tail _ (List.Mem.tail _ (List.Mem.tail _ (List.Mem.tail _ (List.Mem.tail _ (List.Mem.tail _ (List.Mem.tail _ (List.Mem.tail _ (List.Mem.tail _ (List.Mem.tail _ (List.Mem.tail _ (List.Mem.tail _ (List.Mem.tail _ (List.Mem.tail _ (List.Mem.head _)))))))))))))))
  have ca1 := H.cell (w4.heap.size) 1 (.int .i64 q) (List.Mem.tail _ (List.Mem.tail _ (List.Mem.tail _ (List.Mem.tail _ (List.Mem.tail _ (List.Mem.tail _ (List.Mem.tail _ (List.Mem.tail _ (List.Mem.tail _ (List.Mem.tail _ (List.Mem.tail _ (List.Mem.tail _ (List.Mem.tail _ (List.Mem.tail _ (List.Mem.tail _ (List.Mem.head _))))))))))))))))
  have la := H.lt (w4.heap.size) 0 (.int .i64 p) (List.Mem.tail _ (List.Mem.tail _ (List.Mem.tail _ (List.Mem.tail _ (List.Mem.tail _ (List.Mem.tail _ (List.Mem.tail _ (List.Mem.tail _ (List.Mem.tail _ (List.Mem.tail _ (List.Mem.tail _ (List.Mem.tail _ (List.Mem.tail _ (List.Mem.tail _ (List.Mem.head _)))))))))))))))
  have cb0 := H.cell (w5.heap.size) 0 (.int .i64 p) (List.Mem.tail _ (List.Mem.tail _ (List.Mem.tail _ (List.Mem.tail _ (List.Mem.tail _ (List.Mem.tail _ (List.Mem.tail _ (List.Mem.tail _ (List.Mem.tail _ (List.Mem.tail _ (List.Mem.head _)))))))))))
  have cb1 := H.cell (w5.heap.size) 1 (.int .i64 q) (List.Mem.tail _ (List.Mem.tail _ (List.Mem.tail _ (List.Mem.tail _ (List.Mem.tail _ (List.Mem.tail _ (List.Mem.tail _ (List.Mem.tail _ (List.Mem.tail _ (List.Mem.tail _ (List.Mem.tail _ (List.Mem.head _))))))))))))
  have lb := H.lt (w5.heap.size) 0 (.int .i64 p) (List.Mem.tail _ (List.Mem.tail _ (List.Mem.tail _ (List.Mem.tail _ (List.Mem.tail _ (List.Mem.tail _ (List.Mem.tail _ (List.Mem.tail _ (List.Mem.tail _ (List.Mem.tail _ (List.Mem.head _)))))))))))
  have ce0 := H.cell (w6.heap.size) 0 (.int .i64 p) (List.Mem.tail _ (List.Mem.tail _ (List.Mem.tail _ (List.Mem.tail _ (List.Mem.tail _ (List.Mem.tail _ (List.Mem.head _)))))))
  have ce1 := H.cell (w6.heap.size) 1 (.int .i64 q) (List.Mem.tail _ (List.Mem.tail _ (List.Mem.tail _ (List.Mem.tail _ (List.Mem.tail _ (List.Mem.tail _ (List.Mem.tail _ (List.Mem.head _))))))))
  have le := H.lt (w6.heap.size) 0 (.int .i64 p) (List.Mem.tail _ (List.Mem.tail _ (List.Mem.tail _ (List.Mem.tail _ (List.Mem.tail _ (List.Mem.tail _ (List.Mem.head _)))))))
  have cc0 := H.cell (w7.heap.size) 0 (.int .i64 y1) (List.Mem.head _)
  have cc1 := H.cell (w7.heap.size) 1 (.int .i64 m1) (List.Mem.tail _ (List.Mem.head _))
  have cc2 := H.cell (w7.heap.size) 2 (.int .i64 d1) (List.Mem.tail _ (List.Mem.tail _ (List.Mem.head _)))
  have lc := H.lt (w7.heap.size) 0 (.int .i64 y1) (List.Mem.head _)
  go_wp2_with fail
  clear ca0 ca1 la cb0 cb1 lb ce0 ce1 le cc0 cc1 cc2 lc
  replace H := (H.triple (w8.heap.size) (.int .i64 y2) (.int .i64 m2) (.int .i64 d2) 41 rfl)
  go_ret
  exact ⟨rfl, H.old⟩

set_option maxHeartbeats 4000000 in
set_option maxRecDepth 100000 in
theorem tends_3 (K : Ways) (n k m z x p q y1 m1 d1 y2 m2 d2 u v : Int) (w : World) (hL : Lens w) (hk : 0 ≤ k ∧ k < 65536) (hm : k % 401 = m) (he : EndIs n z 0) (hv : MoveIs z m true x 0) (hw : rN m 12 = p ∧ rD m 12 = q ∧ rE m 12 = 0) (hi : PartIs (iX (decide (x = 0))) z x p q 0) (hu : PartIs (uX true) z x u v 0) (hz : DayIs z y1 m1 d1 0) (hx : DayIs x y2 m2 d2 0) (n1 : m1 ≠ 2) (n2 : m2 = 2) :
    Calls Tryd.prog 8 #[.int .i64 n, .int .u16 k] w fun e w' => e = .returned (.bool true) ∧ Below w.heap.size w w' := by
  have H := (Held.start w).add (f := lensF) hL
  clear hL
  have HM := Lib.hid hm
  have hm2 : 0 ≤ m ∧ m ≤ 400 := by omega
  clear hm
  have E1 := Lib.hid he
  have V1 := Lib.hid hv
  have W1 := Lib.hid hw
  have J1 := Lib.hid hi
  have U1 := Lib.hid hu
  have O1 := Lib.hid hz
  have O2 := Lib.hid hx
  clear he hv hw hi hu hz hx
  have e1 : (m1 != 2) = true := by simpa using n1
  clear n1
  have e2 : (m2 == 2) = true := by simpa using n2
  clear n2
  go_enter Tryd.func8, Tryd.ntmps8
  go_wp2_with fail
  (with_reducible refine (tshown_any K _ (H.lens (List.Mem.head _))).mono ?_)
  rintro e w1 ⟨rfl, hb⟩
  replace H := H.below hb
  clear hb
  go_wp2_with fail
  (with_reducible refine (rend_any n z 0 _ E1.out).mono ?_)
  rintro e w2 ⟨rfl, hb⟩
  replace H := H.below hb
  clear hb
  go_wp2_with fail
  rw [HM.out]
  (with_reducible refine (rmove_any z m x 0 true _ V1.out).mono ?_)
  rintro e w3 ⟨rfl, hb⟩
  replace H := H.below hb
  clear hb
  go_wp2_with fail
  (with_reducible refine (refnew_is m 12 p q 0 _ hm2.1 (by omega) (by decide) (by decide) W1.out).mono ?_)
  rintro e w4 ⟨rfl, hb⟩
  replace H := H.below hb
  clear hb
  go_wp2_with fail
  replace H := (H.pair (w4.heap.size) (.int .i64 p) (.int .i64 q) 26 rfl)
  (with_reducible refine (K.isda z x 0 p q 0 _ (H.lens (List.Mem.tail _ (List.Mem.tail _ (List.Mem.tail _ (List.Mem.tail _ (List.Mem.head _)))))) J1.out).mono ?_)
  rintro e w5 ⟨rfl, hb⟩
  replace H := H.below hb
  clear hb
  have ca0 := H.cell (w4.heap.size) 0 (.int .i64 p) (List.Mem.head _)
  have ca1 := H.cell (w4.heap.size) 1 (.int .i64 q) (List.Mem.tail _ (List.Mem.head _))
  have la := H.lt (w4.heap.size) 0 (.int .i64 p) (List.Mem.head _)
  go_wp2_with fail
  clear ca0 ca1 la
  replace H := (H.pair (w5.heap.size) (.int .i64 p) (.int .i64 q) 26 rfl)
  (with_reducible refine (K.us z x u v 0 true _ (H.lens (List.Mem.tail _ (List.Mem.tail _ (List.Mem.tail _ (List.Mem.tail _ (List.Mem.tail _ (List.Mem.tail _ (List.Mem.tail _ (List.Mem.tail _ (List.Mem.head _)))))))))) U1.out).mono ?_)
  rintro e w6 ⟨rfl, hb⟩
  replace H := H.below hb
  clear hb
  have ca0 := H.cell (w4.heap.size) 0 (.int .i64 p) (List.Mem.tail _ (List.Mem.tail _ (List.Mem.tail _ (List.Mem.tail _ (List.Mem.head _)))))
  have ca1 := H.cell (w4.heap.size) 1 (.int .i64 q) (List.Mem.tail _ (List.Mem.tail _ (List.Mem.tail _ (List.Mem.tail _ (List.Mem.tail _ (List.Mem.head _))))))
  have la := H.lt (w4.heap.size) 0 (.int .i64 p) (List.Mem.tail _ (List.Mem.tail _ (List.Mem.tail _ (List.Mem.tail _ (List.Mem.head _)))))
  have cb0 := H.cell (w5.heap.size) 0 (.int .i64 p) (List.Mem.head _)
  have cb1 := H.cell (w5.heap.size) 1 (.int .i64 q) (List.Mem.tail _ (List.Mem.head _))
  have lb := H.lt (w5.heap.size) 0 (.int .i64 p) (List.Mem.head _)
  go_wp2_with fail
  clear ca0 ca1 la cb0 cb1 lb
  replace H := (H.pair (w6.heap.size) (.int .i64 u) (.int .i64 v) 26 rfl)
  (with_reducible refine (rof_any z y1 m1 d1 0 _ O1.out).mono ?_)
  rintro e w7 ⟨rfl, hb⟩
  replace H := H.below hb
  clear hb
  have ca0 := H.cell (w4.heap.size) 0 (.int .i64 p) (List.Mem.tail _ (List.Mem.tail _ (List.Mem.tail _ (List.Mem.tail _ (List.Mem.tail _ (List.Mem.tail _ (List.Mem.tail _ (List.Mem.tail _ (List.Mem.head _)))))))))
  have ca1 := H.cell (w4.heap.size) 1 (.int .i64 q) (List.Mem.tail _ (List.Mem.tail _ (List.Mem.tail _ (List.Mem.tail _ (List.Mem.tail _ (List.Mem.tail _ (List.Mem.tail _ (List.Mem.tail _ (List.Mem.tail _ (List.Mem.head _))))))))))
  have la := H.lt (w4.heap.size) 0 (.int .i64 p) (List.Mem.tail _ (List.Mem.tail _ (List.Mem.tail _ (List.Mem.tail _ (List.Mem.tail _ (List.Mem.tail _ (List.Mem.tail _ (List.Mem.tail _ (List.Mem.head _)))))))))
  have cb0 := H.cell (w5.heap.size) 0 (.int .i64 p) (List.Mem.tail _ (List.Mem.tail _ (List.Mem.tail _ (List.Mem.tail _ (List.Mem.head _)))))
  have cb1 := H.cell (w5.heap.size) 1 (.int .i64 q) (List.Mem.tail _ (List.Mem.tail _ (List.Mem.tail _ (List.Mem.tail _ (List.Mem.tail _ (List.Mem.head _))))))
  have lb := H.lt (w5.heap.size) 0 (.int .i64 p) (List.Mem.tail _ (List.Mem.tail _ (List.Mem.tail _ (List.Mem.tail _ (List.Mem.head _)))))
  have ce0 := H.cell (w6.heap.size) 0 (.int .i64 u) (List.Mem.head _)
  have ce1 := H.cell (w6.heap.size) 1 (.int .i64 v) (List.Mem.tail _ (List.Mem.head _))
  have le := H.lt (w6.heap.size) 0 (.int .i64 u) (List.Mem.head _)
  go_wp2_with fail
  clear ca0 ca1 la cb0 cb1 lb ce0 ce1 le
  replace H := (H.triple (w7.heap.size) (.int .i64 y1) (.int .i64 m1) (.int .i64 d1) 41 rfl)
  (with_reducible refine (rof_any x y2 m2 d2 0 _ O2.out).mono ?_)
  rintro e w8 ⟨rfl, hb⟩
  replace H := H.below hb
  clear hb
  have ca0 := H.cell (w4.heap.size) 0 (.int .i64 p) (List.Mem.tail _ (List.Mem.tail _ (List.Mem.tail _ (List.Mem.tail _ (List.Mem.tail _ (List.Mem.tail _ (List.Mem.tail _ (List.Mem.tail _ (List.Mem.tail _ (List.Mem.tail _ (List.Mem.tail _ (List.Mem.tail _ (List.Mem.tail _ (List.Mem.tail _ (List.Mem.head _)))))))))))))))
  have ca1 := H.cell (w4.heap.size) 1 (.int .i64 q) (List.Mem.tail _ (List.Mem.tail _ (List.Mem.tail _ (List.Mem.tail _ (List.Mem.tail _ (List.Mem.tail _ (List.Mem.tail _ (List.Mem.tail _ (List.Mem.tail _ (List.Mem.tail _ (List.Mem.tail _ (List.Mem.tail _ (List.Mem.tail _ (List.Mem.tail _ (List.Mem.tail _ (List.Mem.head _))))))))))))))))
  have la := H.lt (w4.heap.size) 0 (.int .i64 p) (List.Mem.tail _ (List.Mem.tail _ (List.Mem.tail _ (List.Mem.tail _ (List.Mem.tail _ (List.Mem.tail _ (List.Mem.tail _ (List.Mem.tail _ (List.Mem.tail _ (List.Mem.tail _ (List.Mem.tail _ (List.Mem.tail _ (List.Mem.tail _ (List.Mem.tail _ (List.Mem.head _)))))))))))))))
  have cb0 := H.cell (w5.heap.size) 0 (.int .i64 p) (List.Mem.tail _ (List.Mem.tail _ (List.Mem.tail _ (List.Mem.tail _ (List.Mem.tail _ (List.Mem.tail _ (List.Mem.tail _ (List.Mem.tail _ (List.Mem.tail _ (List.Mem.tail _ (List.Mem.head _)))))))))))
  have cb1 := H.cell (w5.heap.size) 1 (.int .i64 q) (List.Mem.tail _ (List.Mem.tail _ (List.Mem.tail _ (List.Mem.tail _ (List.Mem.tail _ (List.Mem.tail _ (List.Mem.tail _ (List.Mem.tail _ (List.Mem.tail _ (List.Mem.tail _ (List.Mem.tail _ (List.Mem.head _))))))))))))
  have lb := H.lt (w5.heap.size) 0 (.int .i64 p) (List.Mem.tail _ (List.Mem.tail _ (List.Mem.tail _ (List.Mem.tail _ (List.Mem.tail _ (List.Mem.tail _ (List.Mem.tail _ (List.Mem.tail _ (List.Mem.tail _ (List.Mem.tail _ (List.Mem.head _)))))))))))
  have ce0 := H.cell (w6.heap.size) 0 (.int .i64 u) (List.Mem.tail _ (List.Mem.tail _ (List.Mem.tail _ (List.Mem.tail _ (List.Mem.tail _ (List.Mem.tail _ (List.Mem.head _)))))))
  have ce1 := H.cell (w6.heap.size) 1 (.int .i64 v) (List.Mem.tail _ (List.Mem.tail _ (List.Mem.tail _ (List.Mem.tail _ (List.Mem.tail _ (List.Mem.tail _ (List.Mem.tail _ (List.Mem.head _))))))))
  have le := H.lt (w6.heap.size) 0 (.int .i64 u) (List.Mem.tail _ (List.Mem.tail _ (List.Mem.tail _ (List.Mem.tail _ (List.Mem.tail _ (List.Mem.tail _ (List.Mem.head _)))))))
  have cc0 := H.cell (w7.heap.size) 0 (.int .i64 y1) (List.Mem.head _)
  have cc1 := H.cell (w7.heap.size) 1 (.int .i64 m1) (List.Mem.tail _ (List.Mem.head _))
  have cc2 := H.cell (w7.heap.size) 2 (.int .i64 d1) (List.Mem.tail _ (List.Mem.tail _ (List.Mem.head _)))
  have lc := H.lt (w7.heap.size) 0 (.int .i64 y1) (List.Mem.head _)
  go_wp2_with fail
  clear ca0 ca1 la cb0 cb1 lb ce0 ce1 le cc0 cc1 cc2 lc
  replace H := (H.triple (w8.heap.size) (.int .i64 y2) (.int .i64 m2) (.int .i64 d2) 41 rfl)
  go_ret
  exact ⟨rfl, H.old⟩

theorem px_months (y o Y O m : Int) (hm : 0 ≤ m) (h : 12 * Y + O = 12 * y + o + m) : px y o 30 Y O 30 = 30 * m := by unfold px; split <;> omega
theorem ends_isda (y o Y O m : Int) (hm : 0 ≤ m) (h : 12 * Y + O = 12 * y + o + m) : iX false y o (ln y o) Y O (ln Y O) = 30 * m := by
  unfold iX fulD isB
  rw [if_pos rfl, if_pos ⟨rfl, by simp⟩]
  exact px_months y o Y O m hm h
theorem ln_not2 (y m : Int) (h1 : 1 ≤ m) (h2 : m ≤ 12) (h : m ≠ 2) : ln y m = 30 ∨ ln y m = 31 := by
  unfold ln l0; rw [if_neg (by omega)]; omega
theorem ends_us (y o Y O m : Int) (h1 : 1 ≤ o) (h2 : o ≤ 12) (h3 : 1 ≤ O) (h4 : O ≤ 12) (hm : 0 ≤ m) (h : 12 * Y + O = 12 * y + o + m) (hf : o = 2 ∨ O ≠ 2) : uX true y o (ln y o) Y O (ln Y O) = 30 * m := by
  unfold uX
  by_cases f1 : o = 2
  · have e1 : febB y o (ln y o) = true := decide_eq_true ⟨f1, rfl⟩
    rw [e1]
    unfold usA
    rw [if_pos ⟨rfl, rfl⟩]
    by_cases f2 : O = 2
    · have e2 : febB Y O (ln Y O) = true := decide_eq_true ⟨f2, rfl⟩
      rw [e2]
      unfold usB
      rw [if_pos ⟨rfl, rfl, rfl⟩]
      exact px_months y o Y O m hm h
    · have e2 : febB Y O (ln Y O) = false := decide_eq_false (fun x => f2 x.1)
      rw [e2]
      unfold usB
      rw [if_neg (by simp)]
      have : usC 30 (ln Y O) = 30 := by
        unfold usC
        rcases ln_not2 Y O h3 h4 f2 with e | e <;> rw [e] <;> simp
      rw [this]
      exact px_months y o Y O m hm h
  · have f2 : O ≠ 2 := by omega
    have e1 : febB y o (ln y o) = false := decide_eq_false (fun x => f1 x.1)
    have e2 : febB Y O (ln Y O) = false := decide_eq_false (fun x => f2 x.1)
    rw [e1, e2]
    unfold usA usB
    rw [if_neg (by simp), if_neg (by simp)]
    have a := ln_not2 y o h1 h2 f1
    have b := ln_not2 Y O h3 h4 f2
    have c1 : cutD (ln y o) = 30 := by unfold cutD; split <;> omega
    have c2 : usC (ln y o) (ln Y O) = 30 := by unfold usC; split <;> omega
    rw [c1, c2]
    exact px_months y o Y O m hm h
theorem tends_walk (K : Ways) (n k : Int) (w : World) (hL : Lens w) (hn : -9223372036854775808 ≤ n ∧ n < 9223372036854775808) (hk : 0 ≤ k ∧ k < 65536) :
    Calls Tryd.prog 8 #[.int .i64 n, .int .u16 k] w fun e w' => e = .returned (.bool true) ∧ Below w.heap.size w w' := by
  obtain ⟨m, hm⟩ : ∃ m, k % 401 = m := ⟨_, rfl⟩
  by_cases h : n < 1 ∨ 3652059 < n
  · obtain ⟨x, o, hv⟩ := move_is 0 m true
    exact tends_out K n k m 0 3 x o w hL hk hm (end_out h) hv (Or.inl rfl)
  · obtain ⟨y, o, d, a, b⟩ := day_of n (by omega) (by omega)
    have he : EndIs n (nb y o (ln y o)) 0 := end_in y o d a b rfl
    have hz := end_may y o d a
    have a' := a
    obtain ⟨y1, y2, o1, o2, d1, d2⟩ := a'
    by_cases f : 12 * y + o + m < 13 ∨ 120000 < 12 * y + o + m
    · exact tends_out K n k m _ 0 0 3 w hL hk hm he (move_far y o _ hz rfl f) (Or.inr ⟨rfl, rfl⟩)
    · obtain ⟨Y, O, x1, x2, x3, x4, hM⟩ : ∃ Y M : Int, 1 ≤ Y ∧ Y ≤ 9999 ∧ 1 ≤ M ∧ M ≤ 12 ∧ 12 * Y + M = 12 * y + o + m :=
        ⟨(12 * y + o + m - 1) / 12, (12 * y + o + m - 1) % 12 + 1, by omega, by omega, by omega, by omega, by omega⟩
      have e1 : dm true y o (ln y o) Y O = ln Y O := by unfold dm; simp
      have hx := dm_may true y o (ln y o) Y O hz x1 x2 x3 x4
      rw [e1] at hx
      have hv : MoveIs (nb y o (ln y o)) m true (nb Y O (ln Y O)) 0 := move_in y o _ Y O _ hz rfl x1 x2 x3 x4 hM e1 rfl
      have m0 : 0 ≤ m := by omega
      have hle : nb y o (ln y o) ≤ nb Y O (ln Y O) := by
        by_cases hm0 : m = 0
        · have ey : Y = y := by omega
          have eo : O = o := by omega
          rw [ey, eo]; exact Int.le_refl _
        · exact Int.le_of_lt (nb_lt _ _ _ _ _ _ hz hx (by omega))
      have bx := nb_bd _ _ _ hx
      have z0 : decide (nb Y O (ln Y O) = 0) = false := decide_eq_false (by omega)
      have r := r_eq (n := 30 * m) (d := 360) (n' := m) (d' := 12) (by decide) (by decide) (by omega)
      have hw : rE m 12 = 0 := by
        refine (r_yes ?_).2.2
        rw [fit_iff]
        have := m_le m 12 m0 (by decide)
        omega
      have hi : PartIs (iX (decide (nb Y O (ln Y O) = 0))) (nb y o (ln y o)) (nb Y O (ln Y O)) (rN m 12) (rD m 12) 0 := by
        rw [z0]
        exact part_in y o _ Y O _ hz rfl hx rfl hle _ (ends_isda y o Y O m m0 hM) r.1 r.2.1
      have O1 : DayIs (nb y o (ln y o)) y o (ln y o) 0 := Or.inl ⟨hz, rfl, rfl⟩
      have O2 : DayIs (nb Y O (ln Y O)) Y O (ln Y O) 0 := Or.inl ⟨hx, rfl, rfl⟩
      by_cases n1 : o = 2
      · exact tends_1 K n k m _ _ _ _ y o _ Y O _ w hL hk hm he hv ⟨rfl, rfl, hw⟩ hi (part_in y o _ Y O _ hz rfl hx rfl hle _ (ends_us y o Y O m o1 o2 x3 x4 m0 hM (Or.inl n1)) r.1 r.2.1) O1 O2 n1
      · by_cases n2 : O = 2
        · exact tends_3 K n k m _ _ _ _ y o _ Y O _ _ _ w hL hk hm he hv ⟨rfl, rfl, hw⟩ hi (part_in y o _ Y O _ hz rfl hx rfl hle _ rfl rfl rfl) O1 O2 n1 n2
        · exact tends_2 K n k m _ _ _ _ y o _ Y O _ w hL hk hm he hv ⟨rfl, rfl, hw⟩ hi (part_in y o _ Y O _ hz rfl hx rfl hle _ (ends_us y o Y O m o1 o2 x3 x4 m0 hM (Or.inr n2)) r.1 r.2.1) O1 O2 n1 n2
end Go.Proofs.YtkmjaoiehmddcaaDoor
