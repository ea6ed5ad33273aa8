/- WideTells: the walk. -/
import Derived.Test.YtcpifgoglcoeeaaHeld
namespace Go.Proofs.Ytcpifgoglcoeeaa
open Go.RowKit

/-- A number that may be too great (b: it isn't) is told: its halves h, l and a code c. -/
def Told (b : Bool) (p h l c : Int) : Prop := (b = true ∧ c = 0 ∧ wn h l = p ∧ 0 ≤ h ∧ h < 18446744073709551616 ∧ 0 ≤ l ∧ l < 18446744073709551616) ∨ (b = false ∧ c = 6 ∧ h = 0 ∧ l = 0)
def WideOut (b : Bool) (p : Int) (w : World) (e : Ending) (w' : World) : Prop := ∃ h l c : Int, e = .returned (.tuple #[.agg #[.int .u64 h, .int .u64 l], .int .i64 c]) ∧ Told b p h l c ∧ Below w.heap.size w w'
theorem told_yes {p : Int} (h0 : 0 ≤ p) (h1 : p < top) : Told true p (hi p) (lo p) 0 := .inl ⟨rfl, rfl, wn_hi_lo p, (hi_bd p h0 h1).1, (hi_bd p h0 h1).2, (lo_bd p).1, (lo_bd p).2⟩
theorem told_no (p : Int) : Told false p 0 0 6 := .inr ⟨rfl, rfl, rfl, rfl⟩
theorem times_t (a1 a0 n : Int) (w : World) (k1 : 0 ≤ a0) (k2 : a0 < 18446744073709551616) (k3 : 0 ≤ a1) (k4 : a1 < 18446744073709551616) (k5 : 0 ≤ n) (k6 : n < 18446744073709551616) :
    Calls Try.prog 14 #[.agg #[.int .u64 a1, .int .u64 a0], .int .u64 n] w (WideOut (decide (wn a1 a0 * n < top)) (wn a1 a0 * n) w) := by
  by_cases h : wn a1 a0 * n < top
  · rw [decide_eq_true h]
    exact (times_yes a1 a0 n w k1 k2 k3 k4 k5 k6 h).mono fun _ _ h' => ⟨_, _, _, h'.1, told_yes (Int.mul_nonneg (wn_bd a1 a0 k3 k4 k1 k2).1 k5) h, h'.2⟩
  · rw [decide_eq_false h]
    exact (times_no a1 a0 n w k1 k2 k3 k4 k5 k6 (by omega)).mono fun _ _ h' => ⟨_, _, _, h'.1, told_no _, h'.2⟩
theorem add_t (a1 a0 b1 b0 : Int) (w : World) (k1 : 0 ≤ a0) (k2 : a0 < 18446744073709551616) (k3 : 0 ≤ a1) (k4 : a1 < 18446744073709551616) (k5 : 0 ≤ b0) (k6 : b0 < 18446744073709551616) (k7 : 0 ≤ b1) (k8 : b1 < 18446744073709551616) :
    Calls Try.prog 15 #[.agg #[.int .u64 a1, .int .u64 a0], .agg #[.int .u64 b1, .int .u64 b0]] w (WideOut (decide (wn a1 a0 + wn b1 b0 < top)) (wn a1 a0 + wn b1 b0) w) := by
  by_cases h : wn a1 a0 + wn b1 b0 < top
  · rw [decide_eq_true h]
    exact (add_yes a1 a0 b1 b0 w k1 k2 k3 k4 k5 k6 k7 k8 h).mono fun _ _ h' => ⟨_, _, _, h'.1, told_yes (by have := (wn_bd a1 a0 k3 k4 k1 k2).1; have := (wn_bd b1 b0 k7 k8 k5 k6).1; omega) h, h'.2⟩
  · rw [decide_eq_false h]
    exact (add_no a1 a0 b1 b0 w k1 k2 k3 k4 k5 k6 k7 k8 (by omega)).mono fun _ _ h' => ⟨_, _, _, h'.1, told_no _, h'.2⟩
theorem sub_t (a1 a0 b1 b0 : Int) (w : World) (k1 : 0 ≤ a0) (k2 : a0 < 18446744073709551616) (k3 : 0 ≤ a1) (k4 : a1 < 18446744073709551616) (k5 : 0 ≤ b0) (k6 : b0 < 18446744073709551616) (k7 : 0 ≤ b1) (k8 : b1 < 18446744073709551616) :
    Calls Try.prog 16 #[.agg #[.int .u64 a1, .int .u64 a0], .agg #[.int .u64 b1, .int .u64 b0]] w (WideOut (decide (wn b1 b0 ≤ wn a1 a0)) (wn a1 a0 - wn b1 b0) w) := by
  by_cases h : wn b1 b0 ≤ wn a1 a0
  · rw [decide_eq_true h]
    exact (sub_yes a1 a0 b1 b0 w k1 k2 k3 k4 k5 k6 k7 k8 h).mono fun _ _ h' => ⟨_, _, _, h'.1, told_yes (by omega) (by have := (wn_bd a1 a0 k3 k4 k1 k2).2; have := (wn_bd b1 b0 k7 k8 k5 k6).1; omega), h'.2⟩
  · rw [decide_eq_false h]
    exact (sub_no a1 a0 b1 b0 w k1 k2 k3 k4 k5 k6 k7 k8 (by omega)).mono fun _ _ h' => ⟨_, _, _, h'.1, told_no _, h'.2⟩
theorem cmp_below (x y : Int) : decide (cmpI x y < 0) = decide (x < y) := by
  by_cases h : x < y
  · rw [cmpI_lt h, decide_eq_true h]; rfl
  · rw [decide_eq_false h]
    by_cases h2 : x = y
    · rw [cmpI_eq h2]; rfl
    · rw [cmpI_gt (by omega)]; rfl
theorem cmp_from (x y : Int) : decide (0 ≤ cmpI x y) = decide (y ≤ x) := by
  by_cases h : x < y
  · rw [cmpI_lt h, decide_eq_false (show ¬ y ≤ x by omega)]; rfl
  · rw [decide_eq_true (show y ≤ x by omega)]
    by_cases h2 : x = y
    · rw [cmpI_eq h2]; rfl
    · rw [cmpI_gt (by omega)]; rfl
theorem prod_bd (a b : Int) (a0 : 0 ≤ a) (a1 : a < 18446744073709551616) (b0 : 0 ≤ b) (b1 : b < 18446744073709551616) : 0 ≤ a * b ∧ a * b < top := by
  refine ⟨Int.mul_nonneg a0 b0, ?_⟩
  have h1 : a * b ≤ 18446744073709551615 * b := Int.mul_le_mul_of_nonneg_right (by omega) b0
  unfold top
  omega
theorem is_true (xh xl : Int) (a : Option Addr) (k c : Nat) (n : Int) (m : Nat) (w : World) (h0 : 0 ≤ xh) (h1 : xh < 18446744073709551616) (l0 : 0 ≤ xl) (l1 : xl < 18446744073709551616) (nv : BigN w (.slice a k c) n m) (hm : m ≤ 100000) (hn : wn xh xl = n) :
    Calls Try.prog 20 #[.agg #[.int .u64 xh, .int .u64 xl], .agg #[.slice a k c]] w fun e w' => e = .returned (.bool true) ∧ Below w.heap.size w w' := by
  have := is_n xh xl a k c n m w h0 h1 l0 l1 nv hm
  rwa [decide_eq_true hn] at this

set_option maxHeartbeats 20000000 in
set_option maxRecDepth 100000 in
theorem tells_walk (xh xl yh yl n : Int) (w : World) (xh0 : 0 ≤ xh) (xh1 : xh < 18446744073709551616) (xl0 : 0 ≤ xl) (xl1 : xl < 18446744073709551616)
    (yh0 : 0 ≤ yh) (yh1 : yh < 18446744073709551616) (yl0 : 0 ≤ yl) (yl1 : yl < 18446744073709551616) (n0 : 0 ≤ n) (n1 : n < 18446744073709551616) :
    Calls Try.prog 3 #[.agg #[.int .u64 xh, .int .u64 xl], .agg #[.int .u64 yh, .int .u64 yl], .int .u64 n] w fun e w' => e = .returned (.bool true) ∧ Below w.heap.size w w' := by
  have H := Held.start w
  obtain ⟨X, HX⟩ : ∃ X, Hid (wn xh xl = X) := ⟨_, Lib.hid rfl⟩
  obtain ⟨Y, HY⟩ : ∃ Y, Hid (wn yh yl = Y) := ⟨_, Lib.hid rfl⟩
  obtain ⟨P, HP⟩ : ∃ P, Hid (X * n = P) := ⟨_, Lib.hid rfl⟩
  obtain ⟨Q, HQ⟩ : ∃ Q, Hid (X + Y = Q) := ⟨_, Lib.hid rfl⟩
  obtain ⟨D, HD⟩ : ∃ D, Hid (X - Y = D) := ⟨_, Lib.hid rfl⟩
  obtain ⟨T, HT⟩ : ∃ T, Hid (top = T) := ⟨_, Lib.hid rfl⟩
  obtain ⟨bT, hbT⟩ : ∃ b, Hid (decide (P < T) = b) := ⟨_, Lib.hid rfl⟩
  obtain ⟨bA, hbA⟩ : ∃ b, Hid (decide (Q < T) = b) := ⟨_, Lib.hid rfl⟩
  obtain ⟨bS, hbS⟩ : ∃ b, Hid (decide (Y ≤ X) = b) := ⟨_, Lib.hid rfl⟩
  go_enter Try.func3, Try.ntmps3
  go_wp2_with fail
  (with_reducible refine (shown_any _).mono ?_)
  rintro e w1 ⟨rfl, hb⟩
  replace H := ((H.box2 (.int .u64 xh) (.int .u64 xl) _).box2 (.int .u64 yh) (.int .u64 yl) _).below hb
  have eB : (w.alloc (.cells #[.int .u64 xh, .int .u64 xl] 24)).heap.size = w.heap.size + 1 := by simp
  rw [eB] at H
  clear hb eB
  have cx0 := H.cell (w.heap.size) 0 (.int .u64 xh) (List.Mem.tail _ (List.Mem.tail _ (List.Mem.head _)))
  have cx1 := H.cell (w.heap.size) 1 (.int .u64 xl) (List.Mem.tail _ (List.Mem.tail _ (List.Mem.tail _ (List.Mem.head _))))
  have lx := H.lt (w.heap.size) 0 (.int .u64 xh) (List.Mem.tail _ (List.Mem.tail _ (List.Mem.head _)))
  go_wp2_with fail
  clear cx0 cx1 lx
  (with_reducible refine (fromW_n xh xl _ (by omega) (by omega) (by omega) (by omega)).mono ?_)
  rw [HX.out]
  rintro e w2 ⟨aa, ak, ac, rfl, NN, -, hb⟩
  replace H := H.below hb
  clear hb
  replace H := H.num NN
  clear NN
  have cy0 := H.cell (w.heap.size + 1) 0 (.int .u64 yh) (List.Mem.tail _ (List.Mem.head _))
  have cy1 := H.cell (w.heap.size + 1) 1 (.int .u64 yl) (List.Mem.tail _ (List.Mem.tail _ (List.Mem.head _)))
  have ly := H.lt (w.heap.size + 1) 0 (.int .u64 yh) (List.Mem.tail _ (List.Mem.head _))
  go_wp2_with fail
  clear cy0 cy1 ly
  replace H := (H.box1 (.slice aa ak ac) 28)
  (with_reducible refine (fromW_n yh yl _ (by omega) (by omega) (by omega) (by omega)).mono ?_)
  rw [HY.out]
  rintro e w3 ⟨ba, bk, bc, rfl, NN, -, hb⟩
  replace H := H.below hb
  clear hb
  replace H := H.num NN
  clear NN
  go_wp2_with fail
  replace H := (H.box1 (.slice ba bk bc) 28)
  (with_reducible refine (fromU_n n _ (by omega) (by omega)).mono ?_)
  rintro e w4 ⟨ca, ck, cc, rfl, NN, -, hb⟩
  replace H := H.below hb
  clear hb
  replace H := H.num NN
  clear NN
  go_wp2_with fail
  replace H := (H.box1 (.slice ca ck cc) 28)
  (with_reducible refine (limit_n _).mono ?_)
  rw [HT.out]
  rintro e w5 ⟨ma, mk, mc, rfl, NN, -, hb⟩
  replace H := H.below hb
  clear hb
  replace H := H.num NN
  clear NN
  have cx0 := H.cell (w.heap.size) 0 (.int .u64 xh) (List.Mem.tail _ (List.Mem.tail _ (List.Mem.tail _ (List.Mem.tail _ (List.Mem.tail _ (List.Mem.tail _ (List.Mem.tail _ (List.Mem.tail _ (List.Mem.tail _ (List.Mem.head _))))))))))
  have cx1 := H.cell (w.heap.size) 1 (.int .u64 xl) (List.Mem.tail _ (List.Mem.tail _ (List.Mem.tail _ (List.Mem.tail _ (List.Mem.tail _ (List.Mem.tail _ (List.Mem.tail _ (List.Mem.tail _ (List.Mem.tail _ (List.Mem.tail _ (List.Mem.head _)))))))))))
  have lx := H.lt (w.heap.size) 0 (.int .u64 xh) (List.Mem.tail _ (List.Mem.tail _ (List.Mem.tail _ (List.Mem.tail _ (List.Mem.tail _ (List.Mem.tail _ (List.Mem.tail _ (List.Mem.tail _ (List.Mem.tail _ (List.Mem.head _))))))))))
  go_wp2_with fail
  clear cx0 cx1 lx
  replace H := (H.box1 (.slice ma mk mc) 28)
  (with_reducible refine (times_t xh xl n _ (by omega) (by omega) (by omega) (by omega) (by omega) (by omega)).mono ?_)
  rw [HX.out, HP.out, HT.out, hbT.out]
  rintro e w6 ⟨th, tl, tc, rfl, TT, hb⟩
  replace H := H.below hb
  clear hb
  replace TT := Lib.hid TT
  have cx0 := H.cell (w.heap.size) 0 (.int .u64 xh) (List.Mem.tail _ (List.Mem.tail _ (List.Mem.tail _ (List.Mem.tail _ (List.Mem.tail _ (List.Mem.tail _ (List.Mem.tail _ (List.Mem.tail _ (List.Mem.tail _ (List.Mem.tail _ (List.Mem.head _)))))))))))
  have cx1 := H.cell (w.heap.size) 1 (.int .u64 xl) (List.Mem.tail _ (List.Mem.tail _ (List.Mem.tail _ (List.Mem.tail _ (List.Mem.tail _ (List.Mem.tail _ (List.Mem.tail _ (List.Mem.tail _ (List.Mem.tail _ (List.Mem.tail _ (List.Mem.tail _ (List.Mem.head _))))))))))))
  have lx := H.lt (w.heap.size) 0 (.int .u64 xh) (List.Mem.tail _ (List.Mem.tail _ (List.Mem.tail _ (List.Mem.tail _ (List.Mem.tail _ (List.Mem.tail _ (List.Mem.tail _ (List.Mem.tail _ (List.Mem.tail _ (List.Mem.tail _ (List.Mem.head _)))))))))))
  have cy0 := H.cell (w.heap.size + 1) 0 (.int .u64 yh) (List.Mem.tail _ (List.Mem.tail _ (List.Mem.tail _ (List.Mem.tail _ (List.Mem.tail _ (List.Mem.tail _ (List.Mem.tail _ (List.Mem.tail _ (List.Mem.head _)))))))))
  have cy1 := H.cell (w.heap.size + 1) 1 (.int .u64 yl) (List.Mem.tail _ (List.Mem.tail _ (List.Mem.tail _ (List.Mem.tail _ (List.Mem.tail _ (List.Mem.tail _ (List.Mem.tail _ (List.Mem.tail _ (List.Mem.tail _ (List.Mem.head _))))))))))
  have ly := H.lt (w.heap.size + 1) 0 (.int .u64 yh) (List.Mem.tail _ (List.Mem.tail _ (List.Mem.tail _ (List.Mem.tail _ (List.Mem.tail _ (List.Mem.tail _ (List.Mem.tail _ (List.Mem.tail _ (List.Mem.head _)))))))))
  go_wp2_with fail
  clear cx0 cx1 lx cy0 cy1 ly
  replace H := (H.box2 (.int .u64 th) (.int .u64 tl) 24)
  (with_reducible refine (add_t xh xl yh yl _ (by omega) (by omega) (by omega) (by omega) (by omega) (by omega) (by omega) (by omega)).mono ?_)
  rw [HX.out, HY.out, HQ.out, HT.out, hbA.out]
  rintro e w7 ⟨sh, sl, sc, rfl, TS, hb⟩
  replace H := H.below hb
  clear hb
  replace TS := Lib.hid TS
  have cx0 := H.cell (w.heap.size) 0 (.int .u64 xh) (List.Mem.tail _ (List.Mem.tail _ (List.Mem.tail _ (List.Mem.tail _ (List.Mem.tail _ (List.Mem.tail _ (List.Mem.tail _ (List.Mem.tail _ (List.Mem.tail _ (List.Mem.tail _ (List.Mem.tail _ (List.Mem.tail _ (List.Mem.head _)))))))))))))
  have cx1 := H.cell (w.heap.size) 1 (.int .u64 xl) (List.Mem.tail _ (List.Mem.tail _ (List.Mem.tail _ (List.Mem.tail _ (List.Mem.tail _ (List.Mem.tail _ (List.Mem.tail _ (List.Mem.tail _ (List.Mem.tail _ (List.Mem.tail _ (List.Mem.tail _ (List.Mem.tail _ (List.Mem.tail _ (List.Mem.head _))))))))))))))
  have lx := H.lt (w.heap.size) 0 (.int .u64 xh) (List.Mem.tail _ (List.Mem.tail _ (List.Mem.tail _ (List.Mem.tail _ (List.Mem.tail _ (List.Mem.tail _ (List.Mem.tail _ (List.Mem.tail _ (List.Mem.tail _ (List.Mem.tail _ (List.Mem.tail _ (List.Mem.tail _ (List.Mem.head _)))))))))))))
  have cy0 := H.cell (w.heap.size + 1) 0 (.int .u64 yh) (List.Mem.tail _ (List.Mem.tail _ (List.Mem.tail _ (List.Mem.tail _ (List.Mem.tail _ (List.Mem.tail _ (List.Mem.tail _ (List.Mem.tail _ (List.Mem.tail _ (List.Mem.tail _ (List.Mem.head _)))))))))))
  have cy1 := H.cell (w.heap.size + 1) 1 (.int .u64 yl) (List.Mem.tail _ (List.Mem.tail _ (List.Mem.tail _ (List.Mem.tail _ (List.Mem.tail _ (List.Mem.tail _ (List.Mem.tail _ (List.Mem.tail _ (List.Mem.tail _ (List.Mem.tail _ (List.Mem.tail _ (List.Mem.head _))))))))))))
  have ly := H.lt (w.heap.size + 1) 0 (.int .u64 yh) (List.Mem.tail _ (List.Mem.tail _ (List.Mem.tail _ (List.Mem.tail _ (List.Mem.tail _ (List.Mem.tail _ (List.Mem.tail _ (List.Mem.tail _ (List.Mem.tail _ (List.Mem.tail _ (List.Mem.head _)))))))))))
  go_wp2_with fail
  clear cx0 cx1 lx cy0 cy1 ly
  replace H := (H.box2 (.int .u64 sh) (.int .u64 sl) 24)
  (with_reducible refine (sub_t xh xl yh yl _ (by omega) (by omega) (by omega) (by omega) (by omega) (by omega) (by omega) (by omega)).mono ?_)
  rw [HX.out, HY.out, HD.out, hbS.out]
  rintro e w8 ⟨dh, dl, dc, rfl, TD, hb⟩
  replace H := H.below hb
  clear hb
  replace TD := Lib.hid TD
  have ca0 := H.cell (w2.heap.size) 0 (.slice aa ak ac) (List.Mem.tail _ (List.Mem.tail _ (List.Mem.tail _ (List.Mem.tail _ (List.Mem.tail _ (List.Mem.tail _ (List.Mem.tail _ (List.Mem.tail _ (List.Mem.tail _ (List.Mem.tail _ (List.Mem.head _)))))))))))
  have la := H.lt (w2.heap.size) 0 (.slice aa ak ac) (List.Mem.tail _ (List.Mem.tail _ (List.Mem.tail _ (List.Mem.tail _ (List.Mem.tail _ (List.Mem.tail _ (List.Mem.tail _ (List.Mem.tail _ (List.Mem.tail _ (List.Mem.tail _ (List.Mem.head _)))))))))))
  have cc0 := H.cell (w4.heap.size) 0 (.slice ca ck cc) (List.Mem.tail _ (List.Mem.tail _ (List.Mem.tail _ (List.Mem.tail _ (List.Mem.tail _ (List.Mem.tail _ (List.Mem.head _)))))))
  have lc := H.lt (w4.heap.size) 0 (.slice ca ck cc) (List.Mem.tail _ (List.Mem.tail _ (List.Mem.tail _ (List.Mem.tail _ (List.Mem.tail _ (List.Mem.tail _ (List.Mem.head _)))))))
  go_wp2_with fail
  clear ca0 la cc0 lc
  replace H := (H.box2 (.int .u64 dh) (.int .u64 dl) 24)
  (with_reducible refine (prod_n (.slice aa ak ac) (.slice ca ck cc) X n 18 5 _ (H.big (.slice aa ak ac) (X) 18 (List.Mem.tail _ (List.Mem.tail _ (List.Mem.tail _ (List.Mem.tail _ (List.Mem.tail _ (List.Mem.tail _ (List.Mem.tail _ (List.Mem.tail _ (List.Mem.tail _ (List.Mem.tail _ (List.Mem.tail _ (List.Mem.tail _ (List.Mem.tail _ (List.Mem.head _))))))))))))))) (H.big (.slice ca ck cc) (n) 5 (List.Mem.tail _ (List.Mem.tail _ (List.Mem.tail _ (List.Mem.tail _ (List.Mem.tail _ (List.Mem.tail _ (List.Mem.tail _ (List.Mem.tail _ (List.Mem.tail _ (List.Mem.head _))))))))))) (by omega) (by omega)).mono ?_)
  rw [HP.out]
  rintro e w9 ⟨pa, pk, pc, rfl, NN, -, hb⟩
  replace H := H.below hb
  clear hb
  replace H := H.num NN
  clear NN
  have ca0 := H.cell (w2.heap.size) 0 (.slice aa ak ac) (List.Mem.tail _ (List.Mem.tail _ (List.Mem.tail _ (List.Mem.tail _ (List.Mem.tail _ (List.Mem.tail _ (List.Mem.tail _ (List.Mem.tail _ (List.Mem.tail _ (List.Mem.tail _ (List.Mem.tail _ (List.Mem.tail _ (List.Mem.tail _ (List.Mem.head _))))))))))))))
  have la := H.lt (w2.heap.size) 0 (.slice aa ak ac) (List.Mem.tail _ (List.Mem.tail _ (List.Mem.tail _ (List.Mem.tail _ (List.Mem.tail _ (List.Mem.tail _ (List.Mem.tail _ (List.Mem.tail _ (List.Mem.tail _ (List.Mem.tail _ (List.Mem.tail _ (List.Mem.tail _ (List.Mem.tail _ (List.Mem.head _))))))))))))))
  have cb0 := H.cell (w3.heap.size) 0 (.slice ba bk bc) (List.Mem.tail _ (List.Mem.tail _ (List.Mem.tail _ (List.Mem.tail _ (List.Mem.tail _ (List.Mem.tail _ (List.Mem.tail _ (List.Mem.tail _ (List.Mem.tail _ (List.Mem.tail _ (List.Mem.tail _ (List.Mem.head _))))))))))))
  have lb := H.lt (w3.heap.size) 0 (.slice ba bk bc) (List.Mem.tail _ (List.Mem.tail _ (List.Mem.tail _ (List.Mem.tail _ (List.Mem.tail _ (List.Mem.tail _ (List.Mem.tail _ (List.Mem.tail _ (List.Mem.tail _ (List.Mem.tail _ (List.Mem.tail _ (List.Mem.head _))))))))))))
  go_wp2_with fail
  clear ca0 la cb0 lb
  replace H := (H.box1 (.slice pa pk pc) 28)
  (with_reducible refine (plus_n (.slice aa ak ac) (.slice ba bk bc) X Y 18 18 _ (H.big (.slice aa ak ac) (X) 18 (List.Mem.tail _ (List.Mem.tail _ (List.Mem.tail _ (List.Mem.tail _ (List.Mem.tail _ (List.Mem.tail _ (List.Mem.tail _ (List.Mem.tail _ (List.Mem.tail _ (List.Mem.tail _ (List.Mem.tail _ (List.Mem.tail _ (List.Mem.tail _ (List.Mem.tail _ (List.Mem.tail _ (List.Mem.head _))))))))))))))))) (H.big (.slice ba bk bc) (Y) 18 (List.Mem.tail _ (List.Mem.tail _ (List.Mem.tail _ (List.Mem.tail _ (List.Mem.tail _ (List.Mem.tail _ (List.Mem.tail _ (List.Mem.tail _ (List.Mem.tail _ (List.Mem.tail _ (List.Mem.tail _ (List.Mem.tail _ (List.Mem.tail _ (List.Mem.head _))))))))))))))) (by omega) (by omega)).mono ?_)
  rw [HQ.out]
  rintro e w10 ⟨qa, qk, qc, rfl, NN, -, hb⟩
  replace H := H.below hb
  clear hb
  replace H := H.num NN
  clear NN
  obtain ⟨c1, C1⟩ : ∃ c, Hid (cmpI P T = c) := ⟨_, Lib.hid rfl⟩
  obtain ⟨c2, C2⟩ : ∃ c, Hid (cmpI Q T = c) := ⟨_, Lib.hid rfl⟩
  obtain ⟨c3, C3⟩ : ∃ c, Hid (cmpI X Y = c) := ⟨_, Lib.hid rfl⟩
  have cp0 := H.cell (w9.heap.size) 0 (.slice pa pk pc) (List.Mem.tail _ (List.Mem.head _))
  have lp := H.lt (w9.heap.size) 0 (.slice pa pk pc) (List.Mem.tail _ (List.Mem.head _))
  have cm0 := H.cell (w5.heap.size) 0 (.slice ma mk mc) (List.Mem.tail _ (List.Mem.tail _ (List.Mem.tail _ (List.Mem.tail _ (List.Mem.tail _ (List.Mem.tail _ (List.Mem.tail _ (List.Mem.tail _ (List.Mem.tail _ (List.Mem.head _))))))))))
  have lm := H.lt (w5.heap.size) 0 (.slice ma mk mc) (List.Mem.tail _ (List.Mem.tail _ (List.Mem.tail _ (List.Mem.tail _ (List.Mem.tail _ (List.Mem.tail _ (List.Mem.tail _ (List.Mem.tail _ (List.Mem.tail _ (List.Mem.head _))))))))))
  go_wp2_with fail
  clear cp0 lp cm0 lm
  replace H := (H.box1 (.slice qa qk qc) 28)
  (with_reducible refine (cmp_n (.slice pa pk pc) (.slice ma mk mc) P T 24 23 _ (H.big (.slice pa pk pc) (P) 24 (List.Mem.tail _ (List.Mem.tail _ (List.Mem.tail _ (List.Mem.head _))))) (H.big (.slice ma mk mc) (T) 23 (List.Mem.tail _ (List.Mem.tail _ (List.Mem.tail _ (List.Mem.tail _ (List.Mem.tail _ (List.Mem.tail _ (List.Mem.tail _ (List.Mem.tail _ (List.Mem.tail _ (List.Mem.tail _ (List.Mem.tail _ (List.Mem.head _))))))))))))) (by omega) (by omega)).mono ?_)
  rw [C1.out]
  rintro e w11 ⟨rfl, hb⟩
  replace H := H.below hb
  clear hb
  have E1 : decide (c1 < 0) = bT := by rw [← C1.out, cmp_below, hbT.out]
  have cq0 := H.cell (w10.heap.size) 0 (.slice qa qk qc) (List.Mem.head _)
  have lq := H.lt (w10.heap.size) 0 (.slice qa qk qc) (List.Mem.head _)
  have cm0 := H.cell (w5.heap.size) 0 (.slice ma mk mc) (List.Mem.tail _ (List.Mem.tail _ (List.Mem.tail _ (List.Mem.tail _ (List.Mem.tail _ (List.Mem.tail _ (List.Mem.tail _ (List.Mem.tail _ (List.Mem.tail _ (List.Mem.tail _ (List.Mem.head _)))))))))))
  have lm := H.lt (w5.heap.size) 0 (.slice ma mk mc) (List.Mem.tail _ (List.Mem.tail _ (List.Mem.tail _ (List.Mem.tail _ (List.Mem.tail _ (List.Mem.tail _ (List.Mem.tail _ (List.Mem.tail _ (List.Mem.tail _ (List.Mem.tail _ (List.Mem.head _)))))))))))
  go_wp2_with fail
  clear cq0 lq cm0 lm
  (with_reducible refine (cmp_n (.slice qa qk qc) (.slice ma mk mc) Q T 19 23 _ (H.big (.slice qa qk qc) (Q) 19 (List.Mem.tail _ (List.Mem.head _))) (H.big (.slice ma mk mc) (T) 23 (List.Mem.tail _ (List.Mem.tail _ (List.Mem.tail _ (List.Mem.tail _ (List.Mem.tail _ (List.Mem.tail _ (List.Mem.tail _ (List.Mem.tail _ (List.Mem.tail _ (List.Mem.tail _ (List.Mem.tail _ (List.Mem.head _))))))))))))) (by omega) (by omega)).mono ?_)
  rw [C2.out]
  rintro e w12 ⟨rfl, hb⟩
  replace H := H.below hb
  clear hb
  clear E1
  have E2 : decide (c2 < 0) = bA := by rw [← C2.out, cmp_below, hbA.out]
  have ca0 := H.cell (w2.heap.size) 0 (.slice aa ak ac) (List.Mem.tail _ (List.Mem.tail _ (List.Mem.tail _ (List.Mem.tail _ (List.Mem.tail _ (List.Mem.tail _ (List.Mem.tail _ (List.Mem.tail _ (List.Mem.tail _ (List.Mem.tail _ (List.Mem.tail _ (List.Mem.tail _ (List.Mem.tail _ (List.Mem.tail _ (List.Mem.tail _ (List.Mem.tail _ (List.Mem.head _)))))))))))))))))
  have la := H.lt (w2.heap.size) 0 (.slice aa ak ac) (List.Mem.tail _ (List.Mem.tail _ (List.Mem.tail _ (List.Mem.tail _ (List.Mem.tail _ (List.Mem.tail _ (List.Mem.tail _ (List.Mem.tail _ (List.Mem.tail _ (List.Mem.tail _ (List.Mem.tail _ (List.Mem.tail _ (List.Mem.tail _ (List.Mem.tail _ (List.Mem.tail _ (List.Mem.tail _ (List.Mem.head _)))))))))))))))))
  have cb0 := H.cell (w3.heap.size) 0 (.slice ba bk bc) (List.Mem.tail _ (List.Mem.tail _ (List.Mem.tail _ (List.Mem.tail _ (List.Mem.tail _ (List.Mem.tail _ (List.Mem.tail _ (List.Mem.tail _ (List.Mem.tail _ (List.Mem.tail _ (List.Mem.tail _ (List.Mem.tail _ (List.Mem.tail _ (List.Mem.tail _ (List.Mem.head _)))))))))))))))
  have lb := H.lt (w3.heap.size) 0 (.slice ba bk bc) (List.Mem.tail _ (List.Mem.tail _ (List.Mem.tail _ (List.Mem.tail _ (List.Mem.tail _ (List.Mem.tail _ (List.Mem.tail _ (List.Mem.tail _ (List.Mem.tail _ (List.Mem.tail _ (List.Mem.tail _ (List.Mem.tail _ (List.Mem.tail _ (List.Mem.tail _ (List.Mem.head _)))))))))))))))
  go_wp2_with fail
  clear ca0 la cb0 lb
  (with_reducible refine (cmp_n (.slice aa ak ac) (.slice ba bk bc) X Y 18 18 _ (H.big (.slice aa ak ac) (X) 18 (List.Mem.tail _ (List.Mem.tail _ (List.Mem.tail _ (List.Mem.tail _ (List.Mem.tail _ (List.Mem.tail _ (List.Mem.tail _ (List.Mem.tail _ (List.Mem.tail _ (List.Mem.tail _ (List.Mem.tail _ (List.Mem.tail _ (List.Mem.tail _ (List.Mem.tail _ (List.Mem.tail _ (List.Mem.tail _ (List.Mem.tail _ (List.Mem.head _))))))))))))))))))) (H.big (.slice ba bk bc) (Y) 18 (List.Mem.tail _ (List.Mem.tail _ (List.Mem.tail _ (List.Mem.tail _ (List.Mem.tail _ (List.Mem.tail _ (List.Mem.tail _ (List.Mem.tail _ (List.Mem.tail _ (List.Mem.tail _ (List.Mem.tail _ (List.Mem.tail _ (List.Mem.tail _ (List.Mem.tail _ (List.Mem.tail _ (List.Mem.head _))))))))))))))))) (by omega) (by omega)).mono ?_)
  rw [C3.out]
  rintro e w13 ⟨rfl, hb⟩
  replace H := H.below hb
  clear hb
  clear E2
  have E3 : decide (0 ≤ c3) = bS := by rw [← C3.out, cmp_from, hbS.out]
  go_wp2_with fail
  clear E3
  have XB := wn_bd xh xl xh0 xh1 xl0 xl1
  have W0 : wn 0 n = n := by unfold wn; omega
  have HW0 := Lib.hid W0
  obtain ⟨mh, ml, hm⟩ : ∃ mh ml, Hid (hi (xl * n) = mh ∧ lo (xl * n) = ml) := ⟨_, _, Lib.hid ⟨rfl, rfl⟩⟩
  obtain ⟨M, HM⟩ : ∃ M, Hid (xl * n = M) := ⟨_, Lib.hid rfl⟩
  have BM := prod_bd xl n xl0 xl1 n0 n1
  have b1 := hi_bd (xl * n) BM.1 BM.2
  have b2 := lo_bd (xl * n)
  have WM : wn mh ml = M := by rw [← hm.out.1, ← hm.out.2, wn_hi_lo]; exact HM.out
  rw [hm.out.1] at b1
  rw [hm.out.2] at b2
  have HWM := Lib.hid WM
  obtain ⟨b11, b12⟩ := b1
  obtain ⟨b21, b22⟩ := b2
  clear W0 WM XB BM
  have KS : Hid (∀ w' : World, Held w [.cell (w10.heap.size) 0 (.slice qa qk qc), .num (.slice qa qk qc) (Q) 19, .cell (w9.heap.size) 0 (.slice pa pk pc), .num (.slice pa pk pc) (P) 24, .cell (w8.heap.size) 0 (.int .u64 dh), .cell (w8.heap.size) 1 (.int .u64 dl), .cell (w7.heap.size) 0 (.int .u64 sh), .cell (w7.heap.size) 1 (.int .u64 sl), .cell (w6.heap.size) 0 (.int .u64 th), .cell (w6.heap.size) 1 (.int .u64 tl), .cell (w5.heap.size) 0 (.slice ma mk mc), .num (.slice ma mk mc) (T) 23, .cell (w4.heap.size) 0 (.slice ca ck cc), .num (.slice ca ck cc) (n) 5, .cell (w3.heap.size) 0 (.slice ba bk bc), .num (.slice ba bk bc) (Y) 18, .cell (w2.heap.size) 0 (.slice aa ak ac), .num (.slice aa ak ac) (X) 18, .cell (w.heap.size + 1) 0 (.int .u64 yh), .cell (w.heap.size + 1) 1 (.int .u64 yl), .cell (w.heap.size) 0 (.int .u64 xh), .cell (w.heap.size) 1 (.int .u64 xl)] w' → w'.cell? ⟨w.heap.size, 0, none⟩ = some (.int .u64 xh) ∧ w'.cell? ⟨w.heap.size, 1, none⟩ = some (.int .u64 xl) ∧ w'.cell? ⟨w.heap.size + 1, 0, none⟩ = some (.int .u64 yh) ∧ w'.cell? ⟨w.heap.size + 1, 1, none⟩ = some (.int .u64 yl) ∧ w'.cell? ⟨w2.heap.size, 0, none⟩ = some (.slice aa ak ac) ∧ w'.cell? ⟨w3.heap.size, 0, none⟩ = some (.slice ba bk bc) ∧ w'.cell? ⟨w4.heap.size, 0, none⟩ = some (.slice ca ck cc) ∧ Held w [.cell (w10.heap.size) 0 (.slice qa qk qc), .num (.slice qa qk qc) (Q) 19, .cell (w9.heap.size) 0 (.slice pa pk pc), .num (.slice pa pk pc) (P) 24, .cell (w8.heap.size) 0 (.int .u64 dh), .cell (w8.heap.size) 1 (.int .u64 dl), .cell (w7.heap.size) 0 (.int .u64 sh), .cell (w7.heap.size) 1 (.int .u64 sl), .cell (w6.heap.size) 0 (.int .u64 th), .cell (w6.heap.size) 1 (.int .u64 tl), .cell (w5.heap.size) 0 (.slice ma mk mc), .num (.slice ma mk mc) (T) 23, .cell (w4.heap.size) 0 (.slice ca ck cc), .num (.slice ca ck cc) (n) 5, .cell (w3.heap.size) 0 (.slice ba bk bc), .num (.slice ba bk bc) (Y) 18, .cell (w2.heap.size) 0 (.slice aa ak ac), .num (.slice aa ak ac) (X) 18, .cell (w.heap.size + 1) 0 (.int .u64 yh), .cell (w.heap.size + 1) 1 (.int .u64 yl), .cell (w.heap.size) 0 (.int .u64 xh), .cell (w.heap.size) 1 (.int .u64 xl)] w') := Lib.hid (fun _ h => ⟨h.cell (w.heap.size) 0 (.int .u64 xh) (List.Mem.tail _ (List.Mem.tail _ (List.Mem.tail _ (List.Mem.tail _ (List.Mem.tail _ (List.Mem.tail _ (List.Mem.tail _ (List.Mem.tail _ (List.Mem.tail _ (List.Mem.tail _ (List.Mem.tail _ (List.Mem.tail _ (List.Mem.tail _ (List.Mem.tail _ (List.Mem.tail _ (List.Mem.tail _ (List.Mem.tail _ (List.Mem.tail _ (List.Mem.tail _ (List.Mem.tail _ (List.Mem.head _))))))))))))))))))))), h.cell (w.heap.size) 1 (.int .u64 xl) (List.Mem.tail _ (List.Mem.tail _ (List.Mem.tail _ (List.Mem.tail _ (List.Mem.tail _ (List.Mem.tail _ (List.Mem.tail _ (List.Mem.tail _ (List.Mem.tail _ (List.Mem.tail _ (List.Mem.tail _ (List.Mem.tail _ (List.Mem.tail _ (List.Mem.tail _ (List.Mem.tail _ (List.Mem.tail _ (List.Mem.tail _ (List.Mem.tail _ (List.Mem.tail _ (List.Mem.tail _ (List.Mem.tail _ (List.Mem.head _)))))))))))))))))))))), h.cell (w.heap.size + 1) 0 (.int .u64 yh) (List.Mem.tail _ (List.Mem.tail _ (List.Mem.tail _ (List.Mem.tail _ (List.Mem.tail _ (List.Mem.tail _ (List.Mem.tail _ (List.Mem.tail _ (List.Mem.tail _ (List.Mem.tail _ (List.Mem.tail _ (List.Mem.tail _ (List.Mem.tail _ (List.Mem.tail _ (List.Mem.tail _ (List.Mem.tail _ (List.Mem.tail _ (List.Mem.tail _ (List.Mem.head _))))))))))))))))))), h.cell (w.heap.size + 1) 1 (.int .u64 yl) (List.Mem.tail _ (List.Mem.tail _ (List.Mem.tail _ (List.Mem.tail _ (List.Mem.tail _ (List.Mem.tail _ (List.Mem.tail _ (List.Mem.tail _ (List.Mem.tail _ (List.Mem.tail _ (List.Mem.tail _ (List.Mem.tail _ (List.Mem.tail _ (List.Mem.tail _ (List.Mem.tail _ (List.Mem.tail _ (List.Mem.tail _ (List.Mem.tail _ (List.Mem.tail _ (List.Mem.head _)))))))))))))))))))), h.cell (w2.heap.size) 0 (.slice aa ak ac) (List.Mem.tail _ (List.Mem.tail _ (List.Mem.tail _ (List.Mem.tail _ (List.Mem.tail _ (List.Mem.tail _ (List.Mem.tail _ (List.Mem.tail _ (List.Mem.tail _ (List.Mem.tail _ (List.Mem.tail _ (List.Mem.tail _ (List.Mem.tail _ (List.Mem.tail _ (List.Mem.tail _ (List.Mem.tail _ (List.Mem.head _))))))))))))))))), h.cell (w3.heap.size) 0 (.slice ba bk bc) (List.Mem.tail _ (List.Mem.tail _ (List.Mem.tail _ (List.Mem.tail _ (List.Mem.tail _ (List.Mem.tail _ (List.Mem.tail _ (List.Mem.tail _ (List.Mem.tail _ (List.Mem.tail _ (List.Mem.tail _ (List.Mem.tail _ (List.Mem.tail _ (List.Mem.tail _ (List.Mem.head _))))))))))))))), h.cell (w4.heap.size) 0 (.slice ca ck cc) (List.Mem.tail _ (List.Mem.tail _ (List.Mem.tail _ (List.Mem.tail _ (List.Mem.tail _ (List.Mem.tail _ (List.Mem.tail _ (List.Mem.tail _ (List.Mem.tail _ (List.Mem.tail _ (List.Mem.tail _ (List.Mem.tail _ (List.Mem.head _))))))))))))), h⟩)
  have KH : Hid (∀ w' : World, w'.cell? ⟨w.heap.size, 0, none⟩ = some (.int .u64 xh) ∧ w'.cell? ⟨w.heap.size, 1, none⟩ = some (.int .u64 xl) ∧ w'.cell? ⟨w.heap.size + 1, 0, none⟩ = some (.int .u64 yh) ∧ w'.cell? ⟨w.heap.size + 1, 1, none⟩ = some (.int .u64 yl) ∧ w'.cell? ⟨w2.heap.size, 0, none⟩ = some (.slice aa ak ac) ∧ w'.cell? ⟨w3.heap.size, 0, none⟩ = some (.slice ba bk bc) ∧ w'.cell? ⟨w4.heap.size, 0, none⟩ = some (.slice ca ck cc) ∧ Held w [.cell (w10.heap.size) 0 (.slice qa qk qc), .num (.slice qa qk qc) (Q) 19, .cell (w9.heap.size) 0 (.slice pa pk pc), .num (.slice pa pk pc) (P) 24, .cell (w8.heap.size) 0 (.int .u64 dh), .cell (w8.heap.size) 1 (.int .u64 dl), .cell (w7.heap.size) 0 (.int .u64 sh), .cell (w7.heap.size) 1 (.int .u64 sl), .cell (w6.heap.size) 0 (.int .u64 th), .cell (w6.heap.size) 1 (.int .u64 tl), .cell (w5.heap.size) 0 (.slice ma mk mc), .num (.slice ma mk mc) (T) 23, .cell (w4.heap.size) 0 (.slice ca ck cc), .num (.slice ca ck cc) (n) 5, .cell (w3.heap.size) 0 (.slice ba bk bc), .num (.slice ba bk bc) (Y) 18, .cell (w2.heap.size) 0 (.slice aa ak ac), .num (.slice aa ak ac) (X) 18, .cell (w.heap.size + 1) 0 (.int .u64 yh), .cell (w.heap.size + 1) 1 (.int .u64 yl), .cell (w.heap.size) 0 (.int .u64 xh), .cell (w.heap.size) 1 (.int .u64 xl)] w' → Held w [.cell (w10.heap.size) 0 (.slice qa qk qc), .num (.slice qa qk qc) (Q) 19, .cell (w9.heap.size) 0 (.slice pa pk pc), .num (.slice pa pk pc) (P) 24, .cell (w8.heap.size) 0 (.int .u64 dh), .cell (w8.heap.size) 1 (.int .u64 dl), .cell (w7.heap.size) 0 (.int .u64 sh), .cell (w7.heap.size) 1 (.int .u64 sl), .cell (w6.heap.size) 0 (.int .u64 th), .cell (w6.heap.size) 1 (.int .u64 tl), .cell (w5.heap.size) 0 (.slice ma mk mc), .num (.slice ma mk mc) (T) 23, .cell (w4.heap.size) 0 (.slice ca ck cc), .num (.slice ca ck cc) (n) 5, .cell (w3.heap.size) 0 (.slice ba bk bc), .num (.slice ba bk bc) (Y) 18, .cell (w2.heap.size) 0 (.slice aa ak ac), .num (.slice aa ak ac) (X) 18, .cell (w.heap.size + 1) 0 (.int .u64 yh), .cell (w.heap.size + 1) 1 (.int .u64 yl), .cell (w.heap.size) 0 (.int .u64 xh), .cell (w.heap.size) 1 (.int .u64 xl)] w') := Lib.hid (fun _ h => h.2.2.2.2.2.2.2)
  have HS := Lib.hid (KS.out _ H.drew)
  go_region_held3 (fun w' => w'.cell? ⟨w.heap.size, 0, none⟩ = some (.int .u64 xh) ∧ w'.cell? ⟨w.heap.size, 1, none⟩ = some (.int .u64 xl) ∧ w'.cell? ⟨w.heap.size + 1, 0, none⟩ = some (.int .u64 yh) ∧ w'.cell? ⟨w.heap.size + 1, 1, none⟩ = some (.int .u64 yl) ∧ w'.cell? ⟨w2.heap.size, 0, none⟩ = some (.slice aa ak ac) ∧ w'.cell? ⟨w3.heap.size, 0, none⟩ = some (.slice ba bk bc) ∧ w'.cell? ⟨w4.heap.size, 0, none⟩ = some (.slice ca ck cc) ∧ Held w [.cell (w10.heap.size) 0 (.slice qa qk qc), .num (.slice qa qk qc) (Q) 19, .cell (w9.heap.size) 0 (.slice pa pk pc), .num (.slice pa pk pc) (P) 24, .cell (w8.heap.size) 0 (.int .u64 dh), .cell (w8.heap.size) 1 (.int .u64 dl), .cell (w7.heap.size) 0 (.int .u64 sh), .cell (w7.heap.size) 1 (.int .u64 sl), .cell (w6.heap.size) 0 (.int .u64 th), .cell (w6.heap.size) 1 (.int .u64 tl), .cell (w5.heap.size) 0 (.slice ma mk mc), .num (.slice ma mk mc) (T) 23, .cell (w4.heap.size) 0 (.slice ca ck cc), .num (.slice ca ck cc) (n) 5, .cell (w3.heap.size) 0 (.slice ba bk bc), .num (.slice ba bk bc) (Y) 18, .cell (w2.heap.size) 0 (.slice aa ak ac), .num (.slice aa ak ac) (X) 18, .cell (w.heap.size + 1) 0 (.int .u64 yh), .cell (w.heap.size + 1) 1 (.int .u64 yl), .cell (w.heap.size) 0 (.int .u64 xh), .cell (w.heap.size) 1 (.int .u64 xl)] w')
    (first | exact HS.out | (refine KS.out _ (Held.below (KH.out _ ?_) hb); assumption))
    (first
      | (go_at_call 21; (with_reducible refine (of_any n _).mono ?_); rintro e w' ⟨rfl, hb⟩)
      | (go_at_call 20; (with_reducible refine (is_true 0 n ca ck cc n 5 _ (by omega) (by omega) (by omega) (by omega) (Held.big (KH.out _ (by assumption)) (.slice ca ck cc) (n) 5 (List.Mem.tail _ (List.Mem.tail _ (List.Mem.tail _ (List.Mem.tail _ (List.Mem.tail _ (List.Mem.tail _ (List.Mem.tail _ (List.Mem.tail _ (List.Mem.tail _ (List.Mem.tail _ (List.Mem.tail _ (List.Mem.tail _ (List.Mem.tail _ (List.Mem.head _))))))))))))))) (by omega) HW0.out).mono ?_); rintro e w' ⟨rfl, hb⟩; (try replace NF := NF.below hb); (try replace NG := NG.below hb))
      | (go_at_call 22; (with_reducible refine (mul_any xl n _ (by omega) (by omega) (by omega) (by omega)).mono ?_); rw [hm.out.1, hm.out.2]; rintro e w' ⟨rfl, hb⟩; (try replace NF := NF.below hb); (try replace NG := NG.below hb))
      | (go_at_call 12; (with_reducible refine (fromU_n xl _ (by omega) (by omega)).mono ?_); rintro e w' ⟨fa, fk, fc, rfl, NF, -, hb⟩)
      | (go_at_call 17; (with_reducible refine (prod_n (.slice fa fk fc) (.slice ca ck cc) xl n 5 5 _ NF (Held.big (KH.out _ (by assumption)) (.slice ca ck cc) (n) 5 (List.Mem.tail _ (List.Mem.tail _ (List.Mem.tail _ (List.Mem.tail _ (List.Mem.tail _ (List.Mem.tail _ (List.Mem.tail _ (List.Mem.tail _ (List.Mem.tail _ (List.Mem.tail _ (List.Mem.tail _ (List.Mem.tail _ (List.Mem.tail _ (List.Mem.head _))))))))))))))) (by omega) (by omega)).mono ?_); rw [HM.out]; rintro e w' ⟨ga, gk, gc, rfl, NG, -, hb⟩)
      | (go_at_call 20; (with_reducible refine (is_true mh ml ga gk gc M 11 _ (by omega) (by omega) (by omega) (by omega) NG (by omega) HWM.out).mono ?_); rintro e w' ⟨rfl, hb⟩)
      | (go_at_call 23; (with_reducible refine (cmp_any xh xl yh yl _ (by omega) (by omega) (by omega) (by omega)).mono ?_); rw [HX.out, HY.out, C3.out]; rintro e w' ⟨rfl, hb⟩)
      | (go_at_call 19; (with_reducible refine (cmp_n (.slice aa ak ac) (.slice ba bk bc) X Y 18 18 _ (Held.big (KH.out _ (by assumption)) (.slice aa ak ac) (X) 18 (List.Mem.tail _ (List.Mem.tail _ (List.Mem.tail _ (List.Mem.tail _ (List.Mem.tail _ (List.Mem.tail _ (List.Mem.tail _ (List.Mem.tail _ (List.Mem.tail _ (List.Mem.tail _ (List.Mem.tail _ (List.Mem.tail _ (List.Mem.tail _ (List.Mem.tail _ (List.Mem.tail _ (List.Mem.tail _ (List.Mem.tail _ (List.Mem.head _))))))))))))))))))) (Held.big (KH.out _ (by assumption)) (.slice ba bk bc) (Y) 18 (List.Mem.tail _ (List.Mem.tail _ (List.Mem.tail _ (List.Mem.tail _ (List.Mem.tail _ (List.Mem.tail _ (List.Mem.tail _ (List.Mem.tail _ (List.Mem.tail _ (List.Mem.tail _ (List.Mem.tail _ (List.Mem.tail _ (List.Mem.tail _ (List.Mem.tail _ (List.Mem.tail _ (List.Mem.head _))))))))))))))))) (by omega) (by omega)).mono ?_); rw [C3.out]; rintro e w' ⟨rfl, hb⟩))
  obtain ⟨wz, rfl⟩ : ∃ wz : World, wz = w' := ⟨_, rfl⟩
  replace H := KH.out _ (by assumption)
  clear KS KH HS
  clear C1 C2 C3 hbT hbA HM hm HWM HW0
  rcases TT.out with ⟨rfl, rfl, hT, t1, t2, t3, t4⟩ | ⟨rfl, rfl, rfl, rfl⟩ <;> rcases TS.out with ⟨rfl, rfl, hS, s1, s2, s3, s4⟩ | ⟨rfl, rfl, rfl, rfl⟩ <;> rcases TD.out with ⟨hbs, rfl, hD, d1, d2, d3, d4⟩ | ⟨hbs, rfl, rfl, rfl⟩ <;> clear TT TS TD
  · have ET := Lib.hid hT; clear hT
    have ES := Lib.hid hS; clear hS
    have ED := Lib.hid hD; clear hD
    have HLE : Hid (Y ≤ X) := Lib.hid (of_decide_eq_true (hbS.out.trans hbs))
    clear hbS; subst hbs
    go_wp2_with fail
    replace H := (H.box2 (.int .u64 0) (.int .u64 0) 24)
    have KS : Hid (∀ w' : World, Held w [.cell (wz.heap.size) 0 (.int .u64 0), .cell (wz.heap.size) 1 (.int .u64 0), .cell (w10.heap.size) 0 (.slice qa qk qc), .num (.slice qa qk qc) (Q) 19, .cell (w9.heap.size) 0 (.slice pa pk pc), .num (.slice pa pk pc) (P) 24, .cell (w8.heap.size) 0 (.int .u64 dh), .cell (w8.heap.size) 1 (.int .u64 dl), .cell (w7.heap.size) 0 (.int .u64 sh), .cell (w7.heap.size) 1 (.int .u64 sl), .cell (w6.heap.size) 0 (.int .u64 th), .cell (w6.heap.size) 1 (.int .u64 tl), .cell (w5.heap.size) 0 (.slice ma mk mc), .num (.slice ma mk mc) (T) 23, .cell (w4.heap.size) 0 (.slice ca ck cc), .num (.slice ca ck cc) (n) 5, .cell (w3.heap.size) 0 (.slice ba bk bc), .num (.slice ba bk bc) (Y) 18, .cell (w2.heap.size) 0 (.slice aa ak ac), .num (.slice aa ak ac) (X) 18, .cell (w.heap.size + 1) 0 (.int .u64 yh), .cell (w.heap.size + 1) 1 (.int .u64 yl), .cell (w.heap.size) 0 (.int .u64 xh), .cell (w.heap.size) 1 (.int .u64 xl)] w' → w'.cell? ⟨w6.heap.size, 0, none⟩ = some (.int .u64 th) ∧ w'.cell? ⟨w6.heap.size, 1, none⟩ = some (.int .u64 tl) ∧ w'.cell? ⟨w9.heap.size, 0, none⟩ = some (.slice pa pk pc) ∧ w'.cell? ⟨w7.heap.size, 0, none⟩ = some (.int .u64 sh) ∧ w'.cell? ⟨w7.heap.size, 1, none⟩ = some (.int .u64 sl) ∧ w'.cell? ⟨w10.heap.size, 0, none⟩ = some (.slice qa qk qc) ∧ w'.cell? ⟨w8.heap.size, 0, none⟩ = some (.int .u64 dh) ∧ w'.cell? ⟨w8.heap.size, 1, none⟩ = some (.int .u64 dl) ∧ w'.cell? ⟨w2.heap.size, 0, none⟩ = some (.slice aa ak ac) ∧ w'.cell? ⟨w3.heap.size, 0, none⟩ = some (.slice ba bk bc) ∧ w'.cell? ⟨wz.heap.size, 0, none⟩ = some (.int .u64 0) ∧ w'.cell? ⟨wz.heap.size, 1, none⟩ = some (.int .u64 0) ∧ Held w [.cell (wz.heap.size) 0 (.int .u64 0), .cell (wz.heap.size) 1 (.int .u64 0), .cell (w10.heap.size) 0 (.slice qa qk qc), .num (.slice qa qk qc) (Q) 19, .cell (w9.heap.size) 0 (.slice pa pk pc), .num (.slice pa pk pc) (P) 24, .cell (w8.heap.size) 0 (.int .u64 dh), .cell (w8.heap.size) 1 (.int .u64 dl), .cell (w7.heap.size) 0 (.int .u64 sh), .cell (w7.heap.size) 1 (.int .u64 sl), .cell (w6.heap.size) 0 (.int .u64 th), .cell (w6.heap.size) 1 (.int .u64 tl), .cell (w5.heap.size) 0 (.slice ma mk mc), .num (.slice ma mk mc) (T) 23, .cell (w4.heap.size) 0 (.slice ca ck cc), .num (.slice ca ck cc) (n) 5, .cell (w3.heap.size) 0 (.slice ba bk bc), .num (.slice ba bk bc) (Y) 18, .cell (w2.heap.size) 0 (.slice aa ak ac), .num (.slice aa ak ac) (X) 18, .cell (w.heap.size + 1) 0 (.int .u64 yh), .cell (w.heap.size + 1) 1 (.int .u64 yl), .cell (w.heap.size) 0 (.int .u64 xh), .cell (w.heap.size) 1 (.int .u64 xl)] w') := Lib.hid (fun _ h => ⟨h.cell (w6.heap.size) 0 (.int .u64 th) (List.Mem.tail _ (List.Mem.tail _ (List.Mem.tail _ (List.Mem.tail _ (List.Mem.tail _ (List.Mem.tail _ (List.Mem.tail _ (List.Mem.tail _ (List.Mem.tail _ (List.Mem.tail _ (List.Mem.head _))))))))))), h.cell (w6.heap.size) 1 (.int .u64 tl) (List.Mem.tail _ (List.Mem.tail _ (List.Mem.tail _ (List.Mem.tail _ (List.Mem.tail _ (List.Mem.tail _ (List.Mem.tail _ (List.Mem.tail _ (List.Mem.tail _ (List.Mem.tail _ (List.Mem.tail _ (List.Mem.head _)))))))))))), h.cell (w9.heap.size) 0 (.slice pa pk pc) (List.Mem.tail _ (List.Mem.tail _ (List.Mem.tail _ (List.Mem.tail _ (List.Mem.head _))))), h.cell (w7.heap.size) 0 (.int .u64 sh) (List.Mem.tail _ (List.Mem.tail _ (List.Mem.tail _ (List.Mem.tail _ (List.Mem.tail _ (List.Mem.tail _ (List.Mem.tail _ (List.Mem.tail _ (List.Mem.head _))))))))), h.cell (w7.heap.size) 1 (.int .u64 sl) (List.Mem.tail _ (List.Mem.tail _ (List.Mem.tail _ (List.Mem.tail _ (List.Mem.tail _ (List.Mem.tail _ (List.Mem.tail _ (List.Mem.tail _ (List.Mem.tail _ (List.Mem.head _)))))))))), h.cell (w10.heap.size) 0 (.slice qa qk qc) (List.Mem.tail _ (List.Mem.tail _ (List.Mem.head _))), h.cell (w8.heap.size) 0 (.int .u64 dh) (List.Mem.tail _ (List.Mem.tail _ (List.Mem.tail _ (List.Mem.tail _ (List.Mem.tail _ (List.Mem.tail _ (List.Mem.head _))))))), h.cell (w8.heap.size) 1 (.int .u64 dl) (List.Mem.tail _ (List.Mem.tail _ (List.Mem.tail _ (List.Mem.tail _ (List.Mem.tail _ (List.Mem.tail _ (List.Mem.tail _ (List.Mem.head _)))))))), h.cell (w2.heap.size) 0 (.slice aa ak ac) (List.Mem.tail _ (List.Mem.tail _ (List.Mem.tail _ (List.Mem.tail _ (List.Mem.tail _ (List.Mem.tail _ (List.Mem.tail _ (List.Mem.tail _ (List.Mem.tail _ (List.Mem.tail _ (List.Mem.tail _ (List.Mem.tail _ (List.Mem.tail _ (List.Mem.tail _ (List.Mem.tail _ (List.Mem.tail _ (List.Mem.tail _ (List.Mem.tail _ (List.Mem.head _))))))))))))))))))), h.cell (w3.heap.size) 0 (.slice ba bk bc) (List.Mem.tail _ (List.Mem.tail _ (List.Mem.tail _ (List.Mem.tail _ (List.Mem.tail _ (List.Mem.tail _ (List.Mem.tail _ (List.Mem.tail _ (List.Mem.tail _ (List.Mem.tail _ (List.Mem.tail _ (List.Mem.tail _ (List.Mem.tail _ (List.Mem.tail _ (List.Mem.tail _ (List.Mem.tail _ (List.Mem.head _))))))))))))))))), h.cell (wz.heap.size) 0 (.int .u64 0) (List.Mem.head _), h.cell (wz.heap.size) 1 (.int .u64 0) (List.Mem.tail _ (List.Mem.head _)), h⟩)
    have KH : Hid (∀ w' : World, w'.cell? ⟨w6.heap.size, 0, none⟩ = some (.int .u64 th) ∧ w'.cell? ⟨w6.heap.size, 1, none⟩ = some (.int .u64 tl) ∧ w'.cell? ⟨w9.heap.size, 0, none⟩ = some (.slice pa pk pc) ∧ w'.cell? ⟨w7.heap.size, 0, none⟩ = some (.int .u64 sh) ∧ w'.cell? ⟨w7.heap.size, 1, none⟩ = some (.int .u64 sl) ∧ w'.cell? ⟨w10.heap.size, 0, none⟩ = some (.slice qa qk qc) ∧ w'.cell? ⟨w8.heap.size, 0, none⟩ = some (.int .u64 dh) ∧ w'.cell? ⟨w8.heap.size, 1, none⟩ = some (.int .u64 dl) ∧ w'.cell? ⟨w2.heap.size, 0, none⟩ = some (.slice aa ak ac) ∧ w'.cell? ⟨w3.heap.size, 0, none⟩ = some (.slice ba bk bc) ∧ w'.cell? ⟨wz.heap.size, 0, none⟩ = some (.int .u64 0) ∧ w'.cell? ⟨wz.heap.size, 1, none⟩ = some (.int .u64 0) ∧ Held w [.cell (wz.heap.size) 0 (.int .u64 0), .cell (wz.heap.size) 1 (.int .u64 0), .cell (w10.heap.size) 0 (.slice qa qk qc), .num (.slice qa qk qc) (Q) 19, .cell (w9.heap.size) 0 (.slice pa pk pc), .num (.slice pa pk pc) (P) 24, .cell (w8.heap.size) 0 (.int .u64 dh), .cell (w8.heap.size) 1 (.int .u64 dl), .cell (w7.heap.size) 0 (.int .u64 sh), .cell (w7.heap.size) 1 (.int .u64 sl), .cell (w6.heap.size) 0 (.int .u64 th), .cell (w6.heap.size) 1 (.int .u64 tl), .cell (w5.heap.size) 0 (.slice ma mk mc), .num (.slice ma mk mc) (T) 23, .cell (w4.heap.size) 0 (.slice ca ck cc), .num (.slice ca ck cc) (n) 5, .cell (w3.heap.size) 0 (.slice ba bk bc), .num (.slice ba bk bc) (Y) 18, .cell (w2.heap.size) 0 (.slice aa ak ac), .num (.slice aa ak ac) (X) 18, .cell (w.heap.size + 1) 0 (.int .u64 yh), .cell (w.heap.size + 1) 1 (.int .u64 yl), .cell (w.heap.size) 0 (.int .u64 xh), .cell (w.heap.size) 1 (.int .u64 xl)] w' → Held w [.cell (wz.heap.size) 0 (.int .u64 0), .cell (wz.heap.size) 1 (.int .u64 0), .cell (w10.heap.size) 0 (.slice qa qk qc), .num (.slice qa qk qc) (Q) 19, .cell (w9.heap.size) 0 (.slice pa pk pc), .num (.slice pa pk pc) (P) 24, .cell (w8.heap.size) 0 (.int .u64 dh), .cell (w8.heap.size) 1 (.int .u64 dl), .cell (w7.heap.size) 0 (.int .u64 sh), .cell (w7.heap.size) 1 (.int .u64 sl), .cell (w6.heap.size) 0 (.int .u64 th), .cell (w6.heap.size) 1 (.int .u64 tl), .cell (w5.heap.size) 0 (.slice ma mk mc), .num (.slice ma mk mc) (T) 23, .cell (w4.heap.size) 0 (.slice ca ck cc), .num (.slice ca ck cc) (n) 5, .cell (w3.heap.size) 0 (.slice ba bk bc), .num (.slice ba bk bc) (Y) 18, .cell (w2.heap.size) 0 (.slice aa ak ac), .num (.slice aa ak ac) (X) 18, .cell (w.heap.size + 1) 0 (.int .u64 yh), .cell (w.heap.size + 1) 1 (.int .u64 yl), .cell (w.heap.size) 0 (.int .u64 xh), .cell (w.heap.size) 1 (.int .u64 xl)] w') := Lib.hid (fun _ h => h.2.2.2.2.2.2.2.2.2.2.2.2)
    refine wp_region_held_drew (S := fun w' => w'.cell? ⟨w6.heap.size, 0, none⟩ = some (.int .u64 th) ∧ w'.cell? ⟨w6.heap.size, 1, none⟩ = some (.int .u64 tl) ∧ w'.cell? ⟨w9.heap.size, 0, none⟩ = some (.slice pa pk pc) ∧ w'.cell? ⟨w7.heap.size, 0, none⟩ = some (.int .u64 sh) ∧ w'.cell? ⟨w7.heap.size, 1, none⟩ = some (.int .u64 sl) ∧ w'.cell? ⟨w10.heap.size, 0, none⟩ = some (.slice qa qk qc) ∧ w'.cell? ⟨w8.heap.size, 0, none⟩ = some (.int .u64 dh) ∧ w'.cell? ⟨w8.heap.size, 1, none⟩ = some (.int .u64 dl) ∧ w'.cell? ⟨w2.heap.size, 0, none⟩ = some (.slice aa ak ac) ∧ w'.cell? ⟨w3.heap.size, 0, none⟩ = some (.slice ba bk bc) ∧ w'.cell? ⟨wz.heap.size, 0, none⟩ = some (.int .u64 0) ∧ w'.cell? ⟨wz.heap.size, 1, none⟩ = some (.int .u64 0) ∧ Held w [.cell (wz.heap.size) 0 (.int .u64 0), .cell (wz.heap.size) 1 (.int .u64 0), .cell (w10.heap.size) 0 (.slice qa qk qc), .num (.slice qa qk qc) (Q) 19, .cell (w9.heap.size) 0 (.slice pa pk pc), .num (.slice pa pk pc) (P) 24, .cell (w8.heap.size) 0 (.int .u64 dh), .cell (w8.heap.size) 1 (.int .u64 dl), .cell (w7.heap.size) 0 (.int .u64 sh), .cell (w7.heap.size) 1 (.int .u64 sl), .cell (w6.heap.size) 0 (.int .u64 th), .cell (w6.heap.size) 1 (.int .u64 tl), .cell (w5.heap.size) 0 (.slice ma mk mc), .num (.slice ma mk mc) (T) 23, .cell (w4.heap.size) 0 (.slice ca ck cc), .num (.slice ca ck cc) (n) 5, .cell (w3.heap.size) 0 (.slice ba bk bc), .num (.slice ba bk bc) (Y) 18, .cell (w2.heap.size) 0 (.slice aa ak ac), .num (.slice aa ak ac) (X) 18, .cell (w.heap.size + 1) 0 (.int .u64 yh), .cell (w.heap.size + 1) 1 (.int .u64 yl), .cell (w.heap.size) 0 (.int .u64 xh), .cell (w.heap.size) 1 (.int .u64 xl)] w') (by kernel_rfl) (KS.out _ H.drew) (fun hHeld => ?_)
    clear H
    refine wpAnyH_take (i := 0) (oi := ⟨some 136, _, _, _, _, _⟩) (v := ?_) rfl (by kernel_rfl) (by kernel_rfl) (by kernel_rfl) (fun _ _ _ h => h) (Or.inl ⟨by rfl, ?_⟩) (by assumption) ?_
    rotate_left
    · intro w hSw; (try dsimp only at hSw); go_simp; try with_reducible rfl
    simp only [Act.put, List.setIfInBounds_toArray, List.set_cons_zero, List.set_cons_succ]
    refine wpAnyH_take (i := 1) (oi := ⟨some 137, _, _, _, _, _⟩) (v := ?_) rfl (by kernel_rfl) (by kernel_rfl) (by kernel_rfl) (fun _ _ _ h => h) (Or.inl ⟨by rfl, ?_⟩) (by assumption) ?_
    rotate_left
    · intro w hSw; (try dsimp only at hSw); go_simp; try with_reducible rfl
    simp only [Act.put, List.setIfInBounds_toArray, List.set_cons_zero, List.set_cons_succ]
    refine wpAnyH_take (i := 2) (oi := ⟨some 138, _, _, _, _, _⟩) (v := ?_) rfl (by kernel_rfl) (by kernel_rfl) (by kernel_rfl) (fun _ _ _ h => h) (Or.inl ⟨by rfl, ?_⟩) (by assumption) ?_
    rotate_left
    · intro w hSw; (try dsimp only at hSw); go_simp; try with_reducible rfl
    simp only [Act.put, List.setIfInBounds_toArray, List.set_cons_zero, List.set_cons_succ]
    refine wpAnyH_take (i := 3) (oi := ⟨some 139, _, _, _, _, _⟩) (v := ?_) rfl (by kernel_rfl) (by kernel_rfl) (by kernel_rfl) (fun _ _ _ h => h) (Or.inl ⟨by rfl, ?_⟩) (by assumption) ?_
    rotate_left
    · intro w hSw; (try dsimp only at hSw); go_simp; try with_reducible rfl
    simp only [Act.put, List.setIfInBounds_toArray, List.set_cons_zero, List.set_cons_succ]
    refine wpAnyH_take (i := 4) (oi := ⟨some 140, _, _, _, _, _⟩) (v := ?_) rfl (by kernel_rfl) (by kernel_rfl) (by kernel_rfl) (fun _ _ _ h => h) (Or.inl ⟨by rfl, ?_⟩) (by assumption) ?_
    rotate_left
    · intro w hSw; (try dsimp only at hSw); go_simp; try with_reducible rfl
    simp only [Act.put, List.setIfInBounds_toArray, List.set_cons_zero, List.set_cons_succ]
    refine wpAnyH_take (i := 5) (oi := ⟨some 141, _, _, _, _, _⟩) (v := ?_) rfl (by kernel_rfl) (by kernel_rfl) (by kernel_rfl) (fun _ _ _ h => h) (Or.inl ⟨by rfl, ?_⟩) (by assumption) ?_
    rotate_left
    · intro w hSw; (try dsimp only at hSw); go_simp; try with_reducible rfl
    simp only [Act.put, List.setIfInBounds_toArray, List.set_cons_zero, List.set_cons_succ]
    refine wpAnyH_ready (rs := [6]) (by kernel_rfl) (by simp) ?_
    refine AllReadyH.cons (o := ⟨some 142, _, _, _, _, _⟩) rfl (fun K hK => ?_) AllReadyH.nil
    go_simp
    (with_reducible refine (is_true th tl pa pk pc P 24 _ (by omega) (by omega) (by omega) (by omega) (Held.big (KH.out _ hHeld) (.slice pa pk pc) (P) 24 (List.Mem.tail _ (List.Mem.tail _ (List.Mem.tail _ (List.Mem.tail _ (List.Mem.tail _ (List.Mem.head _))))))) (by omega) ET.out).mono ?_)
    rintro e w' ⟨rfl, hb⟩
    go_wp2_with fail
    refine hK.out _ _ ?_ (fun hNew => ?_)
    · exact KS.out _ (Held.below (KH.out _ hHeld) hb)
    clear hK K hHeld
    clear hb
    have hHeld := hNew
    clear hNew
    try simp only [Act.put, List.setIfInBounds_toArray, List.set_cons_zero, List.set_cons_succ]
    refine wpAnyH_take (i := 7) (oi := ⟨some 143, _, _, _, _, _⟩) (v := ?_) rfl (by kernel_rfl) (by kernel_rfl) (by kernel_rfl) (fun _ _ _ h => h) (Or.inl ⟨by rfl, ?_⟩) (by assumption) ?_
    rotate_left
    · intro w hSw; (try dsimp only at hSw); go_simp; try with_reducible rfl
    simp only [Act.put, List.setIfInBounds_toArray, List.set_cons_zero, List.set_cons_succ]
    refine wpAnyH_take (i := 8) (oi := ⟨some 144, _, _, _, _, _⟩) (v := ?_) rfl (by kernel_rfl) (by kernel_rfl) (by kernel_rfl) (fun _ _ _ h => h) (Or.inl ⟨by rfl, ?_⟩) (by assumption) ?_
    rotate_left
    · intro w hSw; (try dsimp only at hSw); go_simp; try with_reducible rfl
    simp only [Act.put, List.setIfInBounds_toArray, List.set_cons_zero, List.set_cons_succ]
    refine wpAnyH_take (i := 9) (oi := ⟨some 145, _, _, _, _, _⟩) (v := undef) rfl (by kernel_rfl) (by kernel_rfl) (by kernel_rfl) (fun _ _ _ h => h) (Or.inr ⟨by rfl, rfl⟩) (by assumption) ?_
    simp only [Act.put, List.setIfInBounds_toArray, List.set_cons_zero, List.set_cons_succ]
    refine wpAnyH_take (i := 10) (oi := ⟨some 146, _, _, _, _, _⟩) (v := undef) rfl (by kernel_rfl) (by kernel_rfl) (by kernel_rfl) (fun _ _ _ h => h) (Or.inr ⟨by rfl, rfl⟩) (by assumption) ?_
    simp only [Act.put, List.setIfInBounds_toArray, List.set_cons_zero, List.set_cons_succ]
    refine wpAnyH_take (i := 11) (oi := ⟨some 147, _, _, _, _, _⟩) (v := undef) rfl (by kernel_rfl) (by kernel_rfl) (by kernel_rfl) (fun _ _ _ h => h) (Or.inr ⟨by rfl, rfl⟩) (by assumption) ?_
    simp only [Act.put, List.setIfInBounds_toArray, List.set_cons_zero, List.set_cons_succ]
    refine wpAnyH_take (i := 12) (oi := ⟨some 148, _, _, _, _, _⟩) (v := undef) rfl (by kernel_rfl) (by kernel_rfl) (by kernel_rfl) (fun _ _ _ h => h) (Or.inr ⟨by rfl, rfl⟩) (by assumption) ?_
    simp only [Act.put, List.setIfInBounds_toArray, List.set_cons_zero, List.set_cons_succ]
    refine wpAnyH_take (i := 13) (oi := ⟨some 149, _, _, _, _, _⟩) (v := undef) rfl (by kernel_rfl) (by kernel_rfl) (by kernel_rfl) (fun _ _ _ h => h) (Or.inr ⟨by rfl, rfl⟩) (by assumption) ?_
    simp only [Act.put, List.setIfInBounds_toArray, List.set_cons_zero, List.set_cons_succ]
    refine wpAnyH_take (i := 14) (oi := ⟨some 150, _, _, _, _, _⟩) (v := undef) rfl (by kernel_rfl) (by kernel_rfl) (by kernel_rfl) (fun _ _ _ h => h) (Or.inr ⟨by rfl, rfl⟩) (by assumption) ?_
    simp only [Act.put, List.setIfInBounds_toArray, List.set_cons_zero, List.set_cons_succ]
    refine wpAnyH_take (i := 15) (oi := ⟨some 151, _, _, _, _, _⟩) (v := undef) rfl (by kernel_rfl) (by kernel_rfl) (by kernel_rfl) (fun _ _ _ h => h) (Or.inr ⟨by rfl, rfl⟩) (by assumption) ?_
    simp only [Act.put, List.setIfInBounds_toArray, List.set_cons_zero, List.set_cons_succ]
    refine wpAnyH_take (i := 16) (oi := ⟨some 152, _, _, _, _, _⟩) (v := ?_) rfl (by kernel_rfl) (by kernel_rfl) (by kernel_rfl) (fun _ _ _ h => h) (Or.inl ⟨by rfl, ?_⟩) (by assumption) ?_
    rotate_left
    · intro w hSw; (try dsimp only at hSw); go_simp; try with_reducible rfl
    simp only [Act.put, List.setIfInBounds_toArray, List.set_cons_zero, List.set_cons_succ]
    refine wpAnyH_take (i := 17) (oi := ⟨some 153, _, _, _, _, _⟩) (v := ?_) rfl (by kernel_rfl) (by kernel_rfl) (by kernel_rfl) (fun _ _ _ h => h) (Or.inl ⟨by rfl, ?_⟩) (by assumption) ?_
    rotate_left
    · intro w hSw; (try dsimp only at hSw); go_simp; try with_reducible rfl
    simp only [Act.put, List.setIfInBounds_toArray, List.set_cons_zero, List.set_cons_succ]
    refine wpAnyH_take (i := 18) (oi := ⟨some 154, _, _, _, _, _⟩) (v := ?_) rfl (by kernel_rfl) (by kernel_rfl) (by kernel_rfl) (fun _ _ _ h => h) (Or.inl ⟨by rfl, ?_⟩) (by assumption) ?_
    rotate_left
    · intro w hSw; (try dsimp only at hSw); go_simp; try with_reducible rfl
    simp only [Act.put, List.setIfInBounds_toArray, List.set_cons_zero, List.set_cons_succ]
    refine wpAnyH_take (i := 19) (oi := ⟨some 155, _, _, _, _, _⟩) (v := ?_) rfl (by kernel_rfl) (by kernel_rfl) (by kernel_rfl) (fun _ _ _ h => h) (Or.inl ⟨by rfl, ?_⟩) (by assumption) ?_
    rotate_left
    · intro w hSw; (try dsimp only at hSw); go_simp; try with_reducible rfl
    simp only [Act.put, List.setIfInBounds_toArray, List.set_cons_zero, List.set_cons_succ]
    refine wpAnyH_take (i := 20) (oi := ⟨some 156, _, _, _, _, _⟩) (v := ?_) rfl (by kernel_rfl) (by kernel_rfl) (by kernel_rfl) (fun _ _ _ h => h) (Or.inl ⟨by rfl, ?_⟩) (by assumption) ?_
    rotate_left
    · intro w hSw; (try dsimp only at hSw); go_simp; try with_reducible rfl
    simp only [Act.put, List.setIfInBounds_toArray, List.set_cons_zero, List.set_cons_succ]
    refine wpAnyH_take (i := 21) (oi := ⟨some 157, _, _, _, _, _⟩) (v := ?_) rfl (by kernel_rfl) (by kernel_rfl) (by kernel_rfl) (fun _ _ _ h => h) (Or.inl ⟨by rfl, ?_⟩) (by assumption) ?_
    rotate_left
    · intro w hSw; (try dsimp only at hSw); go_simp; try with_reducible rfl
    simp only [Act.put, List.setIfInBounds_toArray, List.set_cons_zero, List.set_cons_succ]
    refine wpAnyH_take (i := 22) (oi := ⟨some 158, _, _, _, _, _⟩) (v := ?_) rfl (by kernel_rfl) (by kernel_rfl) (by kernel_rfl) (fun _ _ _ h => h) (Or.inl ⟨by rfl, ?_⟩) (by assumption) ?_
    rotate_left
    · intro w hSw; (try dsimp only at hSw); go_simp; try with_reducible rfl
    simp only [Act.put, List.setIfInBounds_toArray, List.set_cons_zero, List.set_cons_succ]
    refine wpAnyH_ready (rs := [23]) (by kernel_rfl) (by simp) ?_
    refine AllReadyH.cons (o := ⟨some 159, _, _, _, _, _⟩) rfl (fun K hK => ?_) AllReadyH.nil
    go_simp
    (with_reducible refine (is_true sh sl qa qk qc Q 19 _ (by omega) (by omega) (by omega) (by omega) (Held.big (KH.out _ hHeld) (.slice qa qk qc) (Q) 19 (List.Mem.tail _ (List.Mem.tail _ (List.Mem.tail _ (List.Mem.head _))))) (by omega) ES.out).mono ?_)
    rintro e w' ⟨rfl, hb⟩
    go_wp2_with fail
    refine hK.out _ _ ?_ (fun hNew => ?_)
    · exact KS.out _ (Held.below (KH.out _ hHeld) hb)
    clear hK K hHeld
    clear hb
    have hHeld := hNew
    clear hNew
    try simp only [Act.put, List.setIfInBounds_toArray, List.set_cons_zero, List.set_cons_succ]
    refine wpAnyH_take (i := 24) (oi := ⟨some 160, _, _, _, _, _⟩) (v := ?_) rfl (by kernel_rfl) (by kernel_rfl) (by kernel_rfl) (fun _ _ _ h => h) (Or.inl ⟨by rfl, ?_⟩) (by assumption) ?_
    rotate_left
    · intro w hSw; (try dsimp only at hSw); go_simp; try with_reducible rfl
    simp only [Act.put, List.setIfInBounds_toArray, List.set_cons_zero, List.set_cons_succ]
    refine wpAnyH_take (i := 25) (oi := ⟨some 161, _, _, _, _, _⟩) (v := ?_) rfl (by kernel_rfl) (by kernel_rfl) (by kernel_rfl) (fun _ _ _ h => h) (Or.inl ⟨by rfl, ?_⟩) (by assumption) ?_
    rotate_left
    · intro w hSw; (try dsimp only at hSw); go_simp; try with_reducible rfl
    simp only [Act.put, List.setIfInBounds_toArray, List.set_cons_zero, List.set_cons_succ]
    refine wpAnyH_take (i := 26) (oi := ⟨some 162, _, _, _, _, _⟩) (v := undef) rfl (by kernel_rfl) (by kernel_rfl) (by kernel_rfl) (fun _ _ _ h => h) (Or.inr ⟨by rfl, rfl⟩) (by assumption) ?_
    simp only [Act.put, List.setIfInBounds_toArray, List.set_cons_zero, List.set_cons_succ]
    refine wpAnyH_take (i := 27) (oi := ⟨some 163, _, _, _, _, _⟩) (v := undef) rfl (by kernel_rfl) (by kernel_rfl) (by kernel_rfl) (fun _ _ _ h => h) (Or.inr ⟨by rfl, rfl⟩) (by assumption) ?_
    simp only [Act.put, List.setIfInBounds_toArray, List.set_cons_zero, List.set_cons_succ]
    refine wpAnyH_take (i := 28) (oi := ⟨some 164, _, _, _, _, _⟩) (v := undef) rfl (by kernel_rfl) (by kernel_rfl) (by kernel_rfl) (fun _ _ _ h => h) (Or.inr ⟨by rfl, rfl⟩) (by assumption) ?_
    simp only [Act.put, List.setIfInBounds_toArray, List.set_cons_zero, List.set_cons_succ]
    refine wpAnyH_take (i := 29) (oi := ⟨some 165, _, _, _, _, _⟩) (v := undef) rfl (by kernel_rfl) (by kernel_rfl) (by kernel_rfl) (fun _ _ _ h => h) (Or.inr ⟨by rfl, rfl⟩) (by assumption) ?_
    simp only [Act.put, List.setIfInBounds_toArray, List.set_cons_zero, List.set_cons_succ]
    refine wpAnyH_take (i := 30) (oi := ⟨some 166, _, _, _, _, _⟩) (v := undef) rfl (by kernel_rfl) (by kernel_rfl) (by kernel_rfl) (fun _ _ _ h => h) (Or.inr ⟨by rfl, rfl⟩) (by assumption) ?_
    simp only [Act.put, List.setIfInBounds_toArray, List.set_cons_zero, List.set_cons_succ]
    refine wpAnyH_take (i := 31) (oi := ⟨some 167, _, _, _, _, _⟩) (v := undef) rfl (by kernel_rfl) (by kernel_rfl) (by kernel_rfl) (fun _ _ _ h => h) (Or.inr ⟨by rfl, rfl⟩) (by assumption) ?_
    simp only [Act.put, List.setIfInBounds_toArray, List.set_cons_zero, List.set_cons_succ]
    refine wpAnyH_take (i := 32) (oi := ⟨some 168, _, _, _, _, _⟩) (v := undef) rfl (by kernel_rfl) (by kernel_rfl) (by kernel_rfl) (fun _ _ _ h => h) (Or.inr ⟨by rfl, rfl⟩) (by assumption) ?_
    simp only [Act.put, List.setIfInBounds_toArray, List.set_cons_zero, List.set_cons_succ]
    refine wpAnyH_take (i := 33) (oi := ⟨some 169, _, _, _, _, _⟩) (v := ?_) rfl (by kernel_rfl) (by kernel_rfl) (by kernel_rfl) (fun _ _ _ h => h) (Or.inl ⟨by rfl, ?_⟩) (by assumption) ?_
    rotate_left
    · intro w hSw; (try dsimp only at hSw); go_simp; try with_reducible rfl
    simp only [Act.put, List.setIfInBounds_toArray, List.set_cons_zero, List.set_cons_succ]
    refine wpAnyH_take (i := 34) (oi := ⟨some 170, _, _, _, _, _⟩) (v := ?_) rfl (by kernel_rfl) (by kernel_rfl) (by kernel_rfl) (fun _ _ _ h => h) (Or.inl ⟨by rfl, ?_⟩) (by assumption) ?_
    rotate_left
    · intro w hSw; (try dsimp only at hSw); go_simp; try with_reducible rfl
    simp only [Act.put, List.setIfInBounds_toArray, List.set_cons_zero, List.set_cons_succ]
    refine wpAnyH_take (i := 35) (oi := ⟨some 171, _, _, _, _, _⟩) (v := ?_) rfl (by kernel_rfl) (by kernel_rfl) (by kernel_rfl) (fun _ _ _ h => h) (Or.inl ⟨by rfl, ?_⟩) (by assumption) ?_
    rotate_left
    · intro w hSw; (try dsimp only at hSw); go_simp; try with_reducible rfl
    simp only [Act.put, List.setIfInBounds_toArray, List.set_cons_zero, List.set_cons_succ]
    refine wpAnyH_take (i := 36) (oi := ⟨some 172, _, _, _, _, _⟩) (v := ?_) rfl (by kernel_rfl) (by kernel_rfl) (by kernel_rfl) (fun _ _ _ h => h) (Or.inl ⟨by rfl, ?_⟩) (by assumption) ?_
    rotate_left
    · intro w hSw; (try dsimp only at hSw); go_simp; try with_reducible rfl
    simp only [Act.put, List.setIfInBounds_toArray, List.set_cons_zero, List.set_cons_succ]
    refine wpAnyH_take (i := 37) (oi := ⟨some 173, _, _, _, _, _⟩) (v := ?_) rfl (by kernel_rfl) (by kernel_rfl) (by kernel_rfl) (fun _ _ _ h => h) (Or.inl ⟨by rfl, ?_⟩) (by assumption) ?_
    rotate_left
    · intro w hSw; (try dsimp only at hSw); go_simp; try with_reducible rfl
    simp only [Act.put, List.setIfInBounds_toArray, List.set_cons_zero, List.set_cons_succ]
    refine wpAnyH_take (i := 38) (oi := ⟨some 174, _, _, _, _, _⟩) (v := ?_) rfl (by kernel_rfl) (by kernel_rfl) (by kernel_rfl) (fun _ _ _ h => h) (Or.inl ⟨by rfl, ?_⟩) (by assumption) ?_
    rotate_left
    · intro w hSw; (try dsimp only at hSw); go_simp; try with_reducible rfl
    simp only [Act.put, List.setIfInBounds_toArray, List.set_cons_zero, List.set_cons_succ]
    refine wpAnyH_take (i := 39) (oi := ⟨some 175, _, _, _, _, _⟩) (v := ?_) rfl (by kernel_rfl) (by kernel_rfl) (by kernel_rfl) (fun _ _ _ h => h) (Or.inl ⟨by rfl, ?_⟩) (by assumption) ?_
    rotate_left
    · intro w hSw; (try dsimp only at hSw); go_simp; try with_reducible rfl
    simp only [Act.put, List.setIfInBounds_toArray, List.set_cons_zero, List.set_cons_succ]
    refine wpAnyH_take (i := 40) (oi := ⟨some 176, _, _, _, _, _⟩) (v := ?_) rfl (by kernel_rfl) (by kernel_rfl) (by kernel_rfl) (fun _ _ _ h => h) (Or.inl ⟨by rfl, ?_⟩) (by assumption) ?_
    rotate_left
    · intro w hSw; (try dsimp only at hSw); go_simp; try with_reducible rfl
    simp only [Act.put, List.setIfInBounds_toArray, List.set_cons_zero, List.set_cons_succ]
    refine wpAnyH_ready (rs := [41]) (by kernel_rfl) (by simp) ?_
    refine AllReadyH.cons (o := ⟨some 177, _, _, _, _, _⟩) rfl (fun K hK => ?_) AllReadyH.nil
    go_simp
    (with_reducible refine (less_n (.slice aa ak ac) (.slice ba bk bc) X Y 18 18 _ (Held.big (KH.out _ hHeld) (.slice aa ak ac) (X) 18 (List.Mem.tail _ (List.Mem.tail _ (List.Mem.tail _ (List.Mem.tail _ (List.Mem.tail _ (List.Mem.tail _ (List.Mem.tail _ (List.Mem.tail _ (List.Mem.tail _ (List.Mem.tail _ (List.Mem.tail _ (List.Mem.tail _ (List.Mem.tail _ (List.Mem.tail _ (List.Mem.tail _ (List.Mem.tail _ (List.Mem.tail _ (List.Mem.tail _ (List.Mem.tail _ (List.Mem.head _))))))))))))))))))))) (Held.big (KH.out _ hHeld) (.slice ba bk bc) (Y) 18 (List.Mem.tail _ (List.Mem.tail _ (List.Mem.tail _ (List.Mem.tail _ (List.Mem.tail _ (List.Mem.tail _ (List.Mem.tail _ (List.Mem.tail _ (List.Mem.tail _ (List.Mem.tail _ (List.Mem.tail _ (List.Mem.tail _ (List.Mem.tail _ (List.Mem.tail _ (List.Mem.tail _ (List.Mem.tail _ (List.Mem.tail _ (List.Mem.head _))))))))))))))))))) (by omega) HLE.out).mono ?_)
    rw [HD.out]
    rintro e w' ⟨la, lk, lc, rfl, NL, -, hb⟩
    go_wp2_with fail
    refine hK.out _ _ ?_ (fun hNew => ?_)
    · exact KS.out _ (Held.below (KH.out _ hHeld) hb)
    clear hK K hHeld
    clear hb
    have hHeld := hNew
    clear hNew
    try simp only [Act.put, List.setIfInBounds_toArray, List.set_cons_zero, List.set_cons_succ]
    refine wpAnyH_ready (rs := [42]) (by kernel_rfl) (by simp) ?_
    refine AllReadyH.cons (o := ⟨some 178, _, _, _, _, _⟩) rfl (fun K hK => ?_) AllReadyH.nil
    go_simp
    (with_reducible refine (is_true dh dl la lk lc D 18 _ (by omega) (by omega) (by omega) (by omega) NL (by omega) ED.out).mono ?_)
    rintro e w' ⟨rfl, hb⟩
    go_wp2_with fail
    refine hK.out _ _ ?_ (fun hNew => ?_)
    · exact KS.out _ (Held.below (KH.out _ hHeld) hb)
    clear hK K hHeld
    clear hb
    have hHeld := hNew
    clear hNew
    try simp only [Act.put, List.setIfInBounds_toArray, List.set_cons_zero, List.set_cons_succ]
    refine wpAnyH_take (i := 43) (oi := ⟨some 179, _, _, _, _, _⟩) (v := ?_) rfl (by kernel_rfl) (by kernel_rfl) (by kernel_rfl) (fun _ _ _ h => h) (Or.inl ⟨by rfl, ?_⟩) (by assumption) ?_
    rotate_left
    · intro w hSw; (try dsimp only at hSw); go_simp; try with_reducible rfl
    simp only [Act.put, List.setIfInBounds_toArray, List.set_cons_zero, List.set_cons_succ]
    refine wpAnyH_take (i := 44) (oi := ⟨some 180, _, _, _, _, _⟩) (v := ?_) rfl (by kernel_rfl) (by kernel_rfl) (by kernel_rfl) (fun _ _ _ h => h) (Or.inl ⟨by rfl, ?_⟩) (by assumption) ?_
    rotate_left
    · intro w hSw; (try dsimp only at hSw); go_simp; try with_reducible rfl
    simp only [Act.put, List.setIfInBounds_toArray, List.set_cons_zero, List.set_cons_succ]
    refine wpAnyH_take (i := 45) (oi := ⟨some 181, _, _, _, _, _⟩) (v := undef) rfl (by kernel_rfl) (by kernel_rfl) (by kernel_rfl) (fun _ _ _ h => h) (Or.inr ⟨by rfl, rfl⟩) (by assumption) ?_
    simp only [Act.put, List.setIfInBounds_toArray, List.set_cons_zero, List.set_cons_succ]
    refine wpAnyH_take (i := 46) (oi := ⟨some 182, _, _, _, _, _⟩) (v := undef) rfl (by kernel_rfl) (by kernel_rfl) (by kernel_rfl) (fun _ _ _ h => h) (Or.inr ⟨by rfl, rfl⟩) (by assumption) ?_
    simp only [Act.put, List.setIfInBounds_toArray, List.set_cons_zero, List.set_cons_succ]
    refine wpAnyH_take (i := 47) (oi := ⟨some 183, _, _, _, _, _⟩) (v := undef) rfl (by kernel_rfl) (by kernel_rfl) (by kernel_rfl) (fun _ _ _ h => h) (Or.inr ⟨by rfl, rfl⟩) (by assumption) ?_
    simp only [Act.put, List.setIfInBounds_toArray, List.set_cons_zero, List.set_cons_succ]
    refine wpAnyH_take (i := 48) (oi := ⟨some 184, _, _, _, _, _⟩) (v := undef) rfl (by kernel_rfl) (by kernel_rfl) (by kernel_rfl) (fun _ _ _ h => h) (Or.inr ⟨by rfl, rfl⟩) (by assumption) ?_
    simp only [Act.put, List.setIfInBounds_toArray, List.set_cons_zero, List.set_cons_succ]
    refine wpAnyH_take (i := 49) (oi := ⟨some 185, _, _, _, _, _⟩) (v := undef) rfl (by kernel_rfl) (by kernel_rfl) (by kernel_rfl) (fun _ _ _ h => h) (Or.inr ⟨by rfl, rfl⟩) (by assumption) ?_
    simp only [Act.put, List.setIfInBounds_toArray, List.set_cons_zero, List.set_cons_succ]
    refine wpAnyH_take (i := 50) (oi := ⟨some 186, _, _, _, _, _⟩) (v := undef) rfl (by kernel_rfl) (by kernel_rfl) (by kernel_rfl) (fun _ _ _ h => h) (Or.inr ⟨by rfl, rfl⟩) (by assumption) ?_
    simp only [Act.put, List.setIfInBounds_toArray, List.set_cons_zero, List.set_cons_succ]
    refine wpAnyH_take (i := 51) (oi := ⟨some 187, _, _, _, _, _⟩) (v := undef) rfl (by kernel_rfl) (by kernel_rfl) (by kernel_rfl) (fun _ _ _ h => h) (Or.inr ⟨by rfl, rfl⟩) (by assumption) ?_
    simp only [Act.put, List.setIfInBounds_toArray, List.set_cons_zero, List.set_cons_succ]
    refine wpAnyH_take (i := 52) (oi := ⟨some 188, _, _, _, _, _⟩) (v := ?_) rfl (by kernel_rfl) (by kernel_rfl) (by kernel_rfl) (fun _ _ _ h => h) (Or.inl ⟨by rfl, ?_⟩) (by assumption) ?_
    rotate_left
    · intro w hSw; (try dsimp only at hSw); go_simp; try with_reducible rfl
    simp only [Act.put, List.setIfInBounds_toArray, List.set_cons_zero, List.set_cons_succ]
    refine wpAnyH_take (i := 53) (oi := ⟨some 189, _, _, _, _, _⟩) (v := ?_) rfl (by kernel_rfl) (by kernel_rfl) (by kernel_rfl) (fun _ _ _ h => h) (Or.inl ⟨by rfl, ?_⟩) (by assumption) ?_
    rotate_left
    · intro w hSw; (try dsimp only at hSw); go_simp; try with_reducible rfl
    simp only [Act.put, List.setIfInBounds_toArray, List.set_cons_zero, List.set_cons_succ]
    refine wpAnyH_take (i := 54) (oi := ⟨some 6, _, _, _, _, _⟩) (v := ?_) rfl (by kernel_rfl) (by kernel_rfl) (by kernel_rfl) (fun _ _ _ h => h) (Or.inl ⟨by rfl, ?_⟩) (by assumption) ?_
    rotate_left
    · intro w hSw; (try dsimp only at hSw); go_simp; try with_reducible rfl
    simp only [Act.put, List.setIfInBounds_toArray, List.set_cons_zero, List.set_cons_succ]
    refine wpAnyH_done (by kernel_rfl) ?_ _
    have H := KH.out _ hHeld
    clear KS KH hHeld
    go_wp2
    go_ret
    exact ⟨rfl, H.old⟩
  · have ET := Lib.hid hT; clear hT
    have ES := Lib.hid hS; clear hS
    clear hbS; subst hbs
    go_wp2_with fail
    replace H := (H.box2 (.int .u64 0) (.int .u64 0) 24)
    have KS : Hid (∀ w' : World, Held w [.cell (wz.heap.size) 0 (.int .u64 0), .cell (wz.heap.size) 1 (.int .u64 0), .cell (w10.heap.size) 0 (.slice qa qk qc), .num (.slice qa qk qc) (Q) 19, .cell (w9.heap.size) 0 (.slice pa pk pc), .num (.slice pa pk pc) (P) 24, .cell (w8.heap.size) 0 (.int .u64 0), .cell (w8.heap.size) 1 (.int .u64 0), .cell (w7.heap.size) 0 (.int .u64 sh), .cell (w7.heap.size) 1 (.int .u64 sl), .cell (w6.heap.size) 0 (.int .u64 th), .cell (w6.heap.size) 1 (.int .u64 tl), .cell (w5.heap.size) 0 (.slice ma mk mc), .num (.slice ma mk mc) (T) 23, .cell (w4.heap.size) 0 (.slice ca ck cc), .num (.slice ca ck cc) (n) 5, .cell (w3.heap.size) 0 (.slice ba bk bc), .num (.slice ba bk bc) (Y) 18, .cell (w2.heap.size) 0 (.slice aa ak ac), .num (.slice aa ak ac) (X) 18, .cell (w.heap.size + 1) 0 (.int .u64 yh), .cell (w.heap.size + 1) 1 (.int .u64 yl), .cell (w.heap.size) 0 (.int .u64 xh), .cell (w.heap.size) 1 (.int .u64 xl)] w' → w'.cell? ⟨w6.heap.size, 0, none⟩ = some (.int .u64 th) ∧ w'.cell? ⟨w6.heap.size, 1, none⟩ = some (.int .u64 tl) ∧ w'.cell? ⟨w9.heap.size, 0, none⟩ = some (.slice pa pk pc) ∧ w'.cell? ⟨w7.heap.size, 0, none⟩ = some (.int .u64 sh) ∧ w'.cell? ⟨w7.heap.size, 1, none⟩ = some (.int .u64 sl) ∧ w'.cell? ⟨w10.heap.size, 0, none⟩ = some (.slice qa qk qc) ∧ w'.cell? ⟨w8.heap.size, 0, none⟩ = some (.int .u64 0) ∧ w'.cell? ⟨w8.heap.size, 1, none⟩ = some (.int .u64 0) ∧ w'.cell? ⟨w2.heap.size, 0, none⟩ = some (.slice aa ak ac) ∧ w'.cell? ⟨w3.heap.size, 0, none⟩ = some (.slice ba bk bc) ∧ w'.cell? ⟨wz.heap.size, 0, none⟩ = some (.int .u64 0) ∧ w'.cell? ⟨wz.heap.size, 1, none⟩ = some (.int .u64 0) ∧ Held w [.cell (wz.heap.size) 0 (.int .u64 0), .cell (wz.heap.size) 1 (.int .u64 0), .cell (w10.heap.size) 0 (.slice qa qk qc), .num (.slice qa qk qc) (Q) 19, .cell (w9.heap.size) 0 (.slice pa pk pc), .num (.slice pa pk pc) (P) 24, .cell (w8.heap.size) 0 (.int .u64 0), .cell (w8.heap.size) 1 (.int .u64 0), .cell (w7.heap.size) 0 (.int .u64 sh), .cell (w7.heap.size) 1 (.int .u64 sl), .cell (w6.heap.size) 0 (.int .u64 th), .cell (w6.heap.size) 1 (.int .u64 tl), .cell (w5.heap.size) 0 (.slice ma mk mc), .num (.slice ma mk mc) (T) 23, .cell (w4.heap.size) 0 (.slice ca ck cc), .num (.slice ca ck cc) (n) 5, .cell (w3.heap.size) 0 (.slice ba bk bc), .num (.slice ba bk bc) (Y) 18, .cell (w2.heap.size) 0 (.slice aa ak ac), .num (.slice aa ak ac) (X) 18, .cell (w.heap.size + 1) 0 (.int .u64 yh), .cell (w.heap.size + 1) 1 (.int .u64 yl), .cell (w.heap.size) 0 (.int .u64 xh), .cell (w.heap.size) 1 (.int .u64 xl)] w') := Lib.hid (fun _ h => ⟨h.cell (w6.heap.size) 0 (.int .u64 th) (List.Mem.tail _ (List.Mem.tail _ (List.Mem.tail _ (List.Mem.tail _ (List.Mem.tail _ (List.Mem.tail _ (List.Mem.tail _ (List.Mem.tail _ (List.Mem.tail _ (List.Mem.tail _ (List.Mem.head _))))))))))), h.cell (w6.heap.size) 1 (.int .u64 tl) (List.Mem.tail _ (List.Mem.tail _ (List.Mem.tail _ (List.Mem.tail _ (List.Mem.tail _ (List.Mem.tail _ (List.Mem.tail _ (List.Mem.tail _ (List.Mem.tail _ (List.Mem.tail _ (List.Mem.tail _ (List.Mem.head _)))))))))))), h.cell (w9.heap.size) 0 (.slice pa pk pc) (List.Mem.tail _ (List.Mem.tail _ (List.Mem.tail _ (List.Mem.tail _ (List.Mem.head _))))), h.cell (w7.heap.size) 0 (.int .u64 sh) (List.Mem.tail _ (List.Mem.tail _ (List.Mem.tail _ (List.Mem.tail _ (List.Mem.tail _ (List.Mem.tail _ (List.Mem.tail _ (List.Mem.tail _ (List.Mem.head _))))))))), h.cell (w7.heap.size) 1 (.int .u64 sl) (List.Mem.tail _ (List.Mem.tail _ (List.Mem.tail _ (List.Mem.tail _ (List.Mem.tail _ (List.Mem.tail _ (List.Mem.tail _ (List.Mem.tail _ (List.Mem.tail _ (List.Mem.head _)))))))))), h.cell (w10.heap.size) 0 (.slice qa qk qc) (List.Mem.tail _ (List.Mem.tail _ (List.Mem.head _))), h.cell (w8.heap.size) 0 (.int .u64 0) (List.Mem.tail _ (List.Mem.tail _ (List.Mem.tail _ (List.Mem.tail _ (List.Mem.tail _ (List.Mem.tail _ (List.Mem.head _))))))), h.cell (w8.heap.size) 1 (.int .u64 0) (List.Mem.tail _ (List.Mem.tail _ (List.Mem.tail _ (List.Mem.tail _ (List.Mem.tail _ (List.Mem.tail _ (List.Mem.tail _ (List.Mem.head _)))))))), h.cell (w2.heap.size) 0 (.slice aa ak ac) (List.Mem.tail _ (List.Mem.tail _ (List.Mem.tail _ (List.Mem.tail _ (List.Mem.tail _ (List.Mem.tail _ (List.Mem.tail _ (List.Mem.tail _ (List.Mem.tail _ (List.Mem.tail _ (List.Mem.tail _ (List.Mem.tail _ (List.Mem.tail _ (List.Mem.tail _ (List.Mem.tail _ (List.Mem.tail _ (List.Mem.tail _ (List.Mem.tail _ (List.Mem.head _))))))))))))))))))), h.cell (w3.heap.size) 0 (.slice ba bk bc) (List.Mem.tail _ (List.Mem.tail _ (List.Mem.tail _ (List.Mem.tail _ (List.Mem.tail _ (List.Mem.tail _ (List.Mem.tail _ (List.Mem.tail _ (List.Mem.tail _ (List.Mem.tail _ (List.Mem.tail _ (List.Mem.tail _ (List.Mem.tail _ (List.Mem.tail _ (List.Mem.tail _ (List.Mem.tail _ (List.Mem.head _))))))))))))))))), h.cell (wz.heap.size) 0 (.int .u64 0) (List.Mem.head _), h.cell (wz.heap.size) 1 (.int .u64 0) (List.Mem.tail _ (List.Mem.head _)), h⟩)
    have KH : Hid (∀ w' : World, w'.cell? ⟨w6.heap.size, 0, none⟩ = some (.int .u64 th) ∧ w'.cell? ⟨w6.heap.size, 1, none⟩ = some (.int .u64 tl) ∧ w'.cell? ⟨w9.heap.size, 0, none⟩ = some (.slice pa pk pc) ∧ w'.cell? ⟨w7.heap.size, 0, none⟩ = some (.int .u64 sh) ∧ w'.cell? ⟨w7.heap.size, 1, none⟩ = some (.int .u64 sl) ∧ w'.cell? ⟨w10.heap.size, 0, none⟩ = some (.slice qa qk qc) ∧ w'.cell? ⟨w8.heap.size, 0, none⟩ = some (.int .u64 0) ∧ w'.cell? ⟨w8.heap.size, 1, none⟩ = some (.int .u64 0) ∧ w'.cell? ⟨w2.heap.size, 0, none⟩ = some (.slice aa ak ac) ∧ w'.cell? ⟨w3.heap.size, 0, none⟩ = some (.slice ba bk bc) ∧ w'.cell? ⟨wz.heap.size, 0, none⟩ = some (.int .u64 0) ∧ w'.cell? ⟨wz.heap.size, 1, none⟩ = some (.int .u64 0) ∧ Held w [.cell (wz.heap.size) 0 (.int .u64 0), .cell (wz.heap.size) 1 (.int .u64 0), .cell (w10.heap.size) 0 (.slice qa qk qc), .num (.slice qa qk qc) (Q) 19, .cell (w9.heap.size) 0 (.slice pa pk pc), .num (.slice pa pk pc) (P) 24, .cell (w8.heap.size) 0 (.int .u64 0), .cell (w8.heap.size) 1 (.int .u64 0), .cell (w7.heap.size) 0 (.int .u64 sh), .cell (w7.heap.size) 1 (.int .u64 sl), .cell (w6.heap.size) 0 (.int .u64 th), .cell (w6.heap.size) 1 (.int .u64 tl), .cell (w5.heap.size) 0 (.slice ma mk mc), .num (.slice ma mk mc) (T) 23, .cell (w4.heap.size) 0 (.slice ca ck cc), .num (.slice ca ck cc) (n) 5, .cell (w3.heap.size) 0 (.slice ba bk bc), .num (.slice ba bk bc) (Y) 18, .cell (w2.heap.size) 0 (.slice aa ak ac), .num (.slice aa ak ac) (X) 18, .cell (w.heap.size + 1) 0 (.int .u64 yh), .cell (w.heap.size + 1) 1 (.int .u64 yl), .cell (w.heap.size) 0 (.int .u64 xh), .cell (w.heap.size) 1 (.int .u64 xl)] w' → Held w [.cell (wz.heap.size) 0 (.int .u64 0), .cell (wz.heap.size) 1 (.int .u64 0), .cell (w10.heap.size) 0 (.slice qa qk qc), .num (.slice qa qk qc) (Q) 19, .cell (w9.heap.size) 0 (.slice pa pk pc), .num (.slice pa pk pc) (P) 24, .cell (w8.heap.size) 0 (.int .u64 0), .cell (w8.heap.size) 1 (.int .u64 0), .cell (w7.heap.size) 0 (.int .u64 sh), .cell (w7.heap.size) 1 (.int .u64 sl), .cell (w6.heap.size) 0 (.int .u64 th), .cell (w6.heap.size) 1 (.int .u64 tl), .cell (w5.heap.size) 0 (.slice ma mk mc), .num (.slice ma mk mc) (T) 23, .cell (w4.heap.size) 0 (.slice ca ck cc), .num (.slice ca ck cc) (n) 5, .cell (w3.heap.size) 0 (.slice ba bk bc), .num (.slice ba bk bc) (Y) 18, .cell (w2.heap.size) 0 (.slice aa ak ac), .num (.slice aa ak ac) (X) 18, .cell (w.heap.size + 1) 0 (.int .u64 yh), .cell (w.heap.size + 1) 1 (.int .u64 yl), .cell (w.heap.size) 0 (.int .u64 xh), .cell (w.heap.size) 1 (.int .u64 xl)] w') := Lib.hid (fun _ h => h.2.2.2.2.2.2.2.2.2.2.2.2)
    refine wp_region_held_drew (S := fun w' => w'.cell? ⟨w6.heap.size, 0, none⟩ = some (.int .u64 th) ∧ w'.cell? ⟨w6.heap.size, 1, none⟩ = some (.int .u64 tl) ∧ w'.cell? ⟨w9.heap.size, 0, none⟩ = some (.slice pa pk pc) ∧ w'.cell? ⟨w7.heap.size, 0, none⟩ = some (.int .u64 sh) ∧ w'.cell? ⟨w7.heap.size, 1, none⟩ = some (.int .u64 sl) ∧ w'.cell? ⟨w10.heap.size, 0, none⟩ = some (.slice qa qk qc) ∧ w'.cell? ⟨w8.heap.size, 0, none⟩ = some (.int .u64 0) ∧ w'.cell? ⟨w8.heap.size, 1, none⟩ = some (.int .u64 0) ∧ w'.cell? ⟨w2.heap.size, 0, none⟩ = some (.slice aa ak ac) ∧ w'.cell? ⟨w3.heap.size, 0, none⟩ = some (.slice ba bk bc) ∧ w'.cell? ⟨wz.heap.size, 0, none⟩ = some (.int .u64 0) ∧ w'.cell? ⟨wz.heap.size, 1, none⟩ = some (.int .u64 0) ∧ Held w [.cell (wz.heap.size) 0 (.int .u64 0), .cell (wz.heap.size) 1 (.int .u64 0), .cell (w10.heap.size) 0 (.slice qa qk qc), .num (.slice qa qk qc) (Q) 19, .cell (w9.heap.size) 0 (.slice pa pk pc), .num (.slice pa pk pc) (P) 24, .cell (w8.heap.size) 0 (.int .u64 0), .cell (w8.heap.size) 1 (.int .u64 0), .cell (w7.heap.size) 0 (.int .u64 sh), .cell (w7.heap.size) 1 (.int .u64 sl), .cell (w6.heap.size) 0 (.int .u64 th), .cell (w6.heap.size) 1 (.int .u64 tl), .cell (w5.heap.size) 0 (.slice ma mk mc), .num (.slice ma mk mc) (T) 23, .cell (w4.heap.size) 0 (.slice ca ck cc), .num (.slice ca ck cc) (n) 5, .cell (w3.heap.size) 0 (.slice ba bk bc), .num (.slice ba bk bc) (Y) 18, .cell (w2.heap.size) 0 (.slice aa ak ac), .num (.slice aa ak ac) (X) 18, .cell (w.heap.size + 1) 0 (.int .u64 yh), .cell (w.heap.size + 1) 1 (.int .u64 yl), .cell (w.heap.size) 0 (.int .u64 xh), .cell (w.heap.size) 1 (.int .u64 xl)] w') (by kernel_rfl) (KS.out _ H.drew) (fun hHeld => ?_)
    clear H
    refine wpAnyH_take (i := 0) (oi := ⟨some 136, _, _, _, _, _⟩) (v := ?_) rfl (by kernel_rfl) (by kernel_rfl) (by kernel_rfl) (fun _ _ _ h => h) (Or.inl ⟨by rfl, ?_⟩) (by assumption) ?_
    rotate_left
    · intro w hSw; (try dsimp only at hSw); go_simp; try with_reducible rfl
    simp only [Act.put, List.setIfInBounds_toArray, List.set_cons_zero, List.set_cons_succ]
    refine wpAnyH_take (i := 1) (oi := ⟨some 137, _, _, _, _, _⟩) (v := ?_) rfl (by kernel_rfl) (by kernel_rfl) (by kernel_rfl) (fun _ _ _ h => h) (Or.inl ⟨by rfl, ?_⟩) (by assumption) ?_
    rotate_left
    · intro w hSw; (try dsimp only at hSw); go_simp; try with_reducible rfl
    simp only [Act.put, List.setIfInBounds_toArray, List.set_cons_zero, List.set_cons_succ]
    refine wpAnyH_take (i := 2) (oi := ⟨some 138, _, _, _, _, _⟩) (v := ?_) rfl (by kernel_rfl) (by kernel_rfl) (by kernel_rfl) (fun _ _ _ h => h) (Or.inl ⟨by rfl, ?_⟩) (by assumption) ?_
    rotate_left
    · intro w hSw; (try dsimp only at hSw); go_simp; try with_reducible rfl
    simp only [Act.put, List.setIfInBounds_toArray, List.set_cons_zero, List.set_cons_succ]
    refine wpAnyH_take (i := 3) (oi := ⟨some 139, _, _, _, _, _⟩) (v := ?_) rfl (by kernel_rfl) (by kernel_rfl) (by kernel_rfl) (fun _ _ _ h => h) (Or.inl ⟨by rfl, ?_⟩) (by assumption) ?_
    rotate_left
    · intro w hSw; (try dsimp only at hSw); go_simp; try with_reducible rfl
    simp only [Act.put, List.setIfInBounds_toArray, List.set_cons_zero, List.set_cons_succ]
    refine wpAnyH_take (i := 4) (oi := ⟨some 140, _, _, _, _, _⟩) (v := ?_) rfl (by kernel_rfl) (by kernel_rfl) (by kernel_rfl) (fun _ _ _ h => h) (Or.inl ⟨by rfl, ?_⟩) (by assumption) ?_
    rotate_left
    · intro w hSw; (try dsimp only at hSw); go_simp; try with_reducible rfl
    simp only [Act.put, List.setIfInBounds_toArray, List.set_cons_zero, List.set_cons_succ]
    refine wpAnyH_take (i := 5) (oi := ⟨some 141, _, _, _, _, _⟩) (v := ?_) rfl (by kernel_rfl) (by kernel_rfl) (by kernel_rfl) (fun _ _ _ h => h) (Or.inl ⟨by rfl, ?_⟩) (by assumption) ?_
    rotate_left
    · intro w hSw; (try dsimp only at hSw); go_simp; try with_reducible rfl
    simp only [Act.put, List.setIfInBounds_toArray, List.set_cons_zero, List.set_cons_succ]
    refine wpAnyH_ready (rs := [6]) (by kernel_rfl) (by simp) ?_
    refine AllReadyH.cons (o := ⟨some 142, _, _, _, _, _⟩) rfl (fun K hK => ?_) AllReadyH.nil
    go_simp
    (with_reducible refine (is_true th tl pa pk pc P 24 _ (by omega) (by omega) (by omega) (by omega) (Held.big (KH.out _ hHeld) (.slice pa pk pc) (P) 24 (List.Mem.tail _ (List.Mem.tail _ (List.Mem.tail _ (List.Mem.tail _ (List.Mem.tail _ (List.Mem.head _))))))) (by omega) ET.out).mono ?_)
    rintro e w' ⟨rfl, hb⟩
    go_wp2_with fail
    refine hK.out _ _ ?_ (fun hNew => ?_)
    · exact KS.out _ (Held.below (KH.out _ hHeld) hb)
    clear hK K hHeld
    clear hb
    have hHeld := hNew
    clear hNew
    try simp only [Act.put, List.setIfInBounds_toArray, List.set_cons_zero, List.set_cons_succ]
    refine wpAnyH_take (i := 7) (oi := ⟨some 143, _, _, _, _, _⟩) (v := ?_) rfl (by kernel_rfl) (by kernel_rfl) (by kernel_rfl) (fun _ _ _ h => h) (Or.inl ⟨by rfl, ?_⟩) (by assumption) ?_
    rotate_left
    · intro w hSw; (try dsimp only at hSw); go_simp; try with_reducible rfl
    simp only [Act.put, List.setIfInBounds_toArray, List.set_cons_zero, List.set_cons_succ]
    refine wpAnyH_take (i := 8) (oi := ⟨some 144, _, _, _, _, _⟩) (v := ?_) rfl (by kernel_rfl) (by kernel_rfl) (by kernel_rfl) (fun _ _ _ h => h) (Or.inl ⟨by rfl, ?_⟩) (by assumption) ?_
    rotate_left
    · intro w hSw; (try dsimp only at hSw); go_simp; try with_reducible rfl
    simp only [Act.put, List.setIfInBounds_toArray, List.set_cons_zero, List.set_cons_succ]
    refine wpAnyH_take (i := 9) (oi := ⟨some 145, _, _, _, _, _⟩) (v := undef) rfl (by kernel_rfl) (by kernel_rfl) (by kernel_rfl) (fun _ _ _ h => h) (Or.inr ⟨by rfl, rfl⟩) (by assumption) ?_
    simp only [Act.put, List.setIfInBounds_toArray, List.set_cons_zero, List.set_cons_succ]
    refine wpAnyH_take (i := 10) (oi := ⟨some 146, _, _, _, _, _⟩) (v := undef) rfl (by kernel_rfl) (by kernel_rfl) (by kernel_rfl) (fun _ _ _ h => h) (Or.inr ⟨by rfl, rfl⟩) (by assumption) ?_
    simp only [Act.put, List.setIfInBounds_toArray, List.set_cons_zero, List.set_cons_succ]
    refine wpAnyH_take (i := 11) (oi := ⟨some 147, _, _, _, _, _⟩) (v := undef) rfl (by kernel_rfl) (by kernel_rfl) (by kernel_rfl) (fun _ _ _ h => h) (Or.inr ⟨by rfl, rfl⟩) (by assumption) ?_
    simp only [Act.put, List.setIfInBounds_toArray, List.set_cons_zero, List.set_cons_succ]
    refine wpAnyH_take (i := 12) (oi := ⟨some 148, _, _, _, _, _⟩) (v := undef) rfl (by kernel_rfl) (by kernel_rfl) (by kernel_rfl) (fun _ _ _ h => h) (Or.inr ⟨by rfl, rfl⟩) (by assumption) ?_
    simp only [Act.put, List.setIfInBounds_toArray, List.set_cons_zero, List.set_cons_succ]
    refine wpAnyH_take (i := 13) (oi := ⟨some 149, _, _, _, _, _⟩) (v := undef) rfl (by kernel_rfl) (by kernel_rfl) (by kernel_rfl) (fun _ _ _ h => h) (Or.inr ⟨by rfl, rfl⟩) (by assumption) ?_
    simp only [Act.put, List.setIfInBounds_toArray, List.set_cons_zero, List.set_cons_succ]
    refine wpAnyH_take (i := 14) (oi := ⟨some 150, _, _, _, _, _⟩) (v := undef) rfl (by kernel_rfl) (by kernel_rfl) (by kernel_rfl) (fun _ _ _ h => h) (Or.inr ⟨by rfl, rfl⟩) (by assumption) ?_
    simp only [Act.put, List.setIfInBounds_toArray, List.set_cons_zero, List.set_cons_succ]
    refine wpAnyH_take (i := 15) (oi := ⟨some 151, _, _, _, _, _⟩) (v := undef) rfl (by kernel_rfl) (by kernel_rfl) (by kernel_rfl) (fun _ _ _ h => h) (Or.inr ⟨by rfl, rfl⟩) (by assumption) ?_
    simp only [Act.put, List.setIfInBounds_toArray, List.set_cons_zero, List.set_cons_succ]
    refine wpAnyH_take (i := 16) (oi := ⟨some 152, _, _, _, _, _⟩) (v := ?_) rfl (by kernel_rfl) (by kernel_rfl) (by kernel_rfl) (fun _ _ _ h => h) (Or.inl ⟨by rfl, ?_⟩) (by assumption) ?_
    rotate_left
    · intro w hSw; (try dsimp only at hSw); go_simp; try with_reducible rfl
    simp only [Act.put, List.setIfInBounds_toArray, List.set_cons_zero, List.set_cons_succ]
    refine wpAnyH_take (i := 17) (oi := ⟨some 153, _, _, _, _, _⟩) (v := ?_) rfl (by kernel_rfl) (by kernel_rfl) (by kernel_rfl) (fun _ _ _ h => h) (Or.inl ⟨by rfl, ?_⟩) (by assumption) ?_
    rotate_left
    · intro w hSw; (try dsimp only at hSw); go_simp; try with_reducible rfl
    simp only [Act.put, List.setIfInBounds_toArray, List.set_cons_zero, List.set_cons_succ]
    refine wpAnyH_take (i := 18) (oi := ⟨some 154, _, _, _, _, _⟩) (v := ?_) rfl (by kernel_rfl) (by kernel_rfl) (by kernel_rfl) (fun _ _ _ h => h) (Or.inl ⟨by rfl, ?_⟩) (by assumption) ?_
    rotate_left
    · intro w hSw; (try dsimp only at hSw); go_simp; try with_reducible rfl
    simp only [Act.put, List.setIfInBounds_toArray, List.set_cons_zero, List.set_cons_succ]
    refine wpAnyH_take (i := 19) (oi := ⟨some 155, _, _, _, _, _⟩) (v := ?_) rfl (by kernel_rfl) (by kernel_rfl) (by kernel_rfl) (fun _ _ _ h => h) (Or.inl ⟨by rfl, ?_⟩) (by assumption) ?_
    rotate_left
    · intro w hSw; (try dsimp only at hSw); go_simp; try with_reducible rfl
    simp only [Act.put, List.setIfInBounds_toArray, List.set_cons_zero, List.set_cons_succ]
    refine wpAnyH_take (i := 20) (oi := ⟨some 156, _, _, _, _, _⟩) (v := ?_) rfl (by kernel_rfl) (by kernel_rfl) (by kernel_rfl) (fun _ _ _ h => h) (Or.inl ⟨by rfl, ?_⟩) (by assumption) ?_
    rotate_left
    · intro w hSw; (try dsimp only at hSw); go_simp; try with_reducible rfl
    simp only [Act.put, List.setIfInBounds_toArray, List.set_cons_zero, List.set_cons_succ]
    refine wpAnyH_take (i := 21) (oi := ⟨some 157, _, _, _, _, _⟩) (v := ?_) rfl (by kernel_rfl) (by kernel_rfl) (by kernel_rfl) (fun _ _ _ h => h) (Or.inl ⟨by rfl, ?_⟩) (by assumption) ?_
    rotate_left
    · intro w hSw; (try dsimp only at hSw); go_simp; try with_reducible rfl
    simp only [Act.put, List.setIfInBounds_toArray, List.set_cons_zero, List.set_cons_succ]
    refine wpAnyH_take (i := 22) (oi := ⟨some 158, _, _, _, _, _⟩) (v := ?_) rfl (by kernel_rfl) (by kernel_rfl) (by kernel_rfl) (fun _ _ _ h => h) (Or.inl ⟨by rfl, ?_⟩) (by assumption) ?_
    rotate_left
    · intro w hSw; (try dsimp only at hSw); go_simp; try with_reducible rfl
    simp only [Act.put, List.setIfInBounds_toArray, List.set_cons_zero, List.set_cons_succ]
    refine wpAnyH_ready (rs := [23]) (by kernel_rfl) (by simp) ?_
    refine AllReadyH.cons (o := ⟨some 159, _, _, _, _, _⟩) rfl (fun K hK => ?_) AllReadyH.nil
    go_simp
    (with_reducible refine (is_true sh sl qa qk qc Q 19 _ (by omega) (by omega) (by omega) (by omega) (Held.big (KH.out _ hHeld) (.slice qa qk qc) (Q) 19 (List.Mem.tail _ (List.Mem.tail _ (List.Mem.tail _ (List.Mem.head _))))) (by omega) ES.out).mono ?_)
    rintro e w' ⟨rfl, hb⟩
    go_wp2_with fail
    refine hK.out _ _ ?_ (fun hNew => ?_)
    · exact KS.out _ (Held.below (KH.out _ hHeld) hb)
    clear hK K hHeld
    clear hb
    have hHeld := hNew
    clear hNew
    try simp only [Act.put, List.setIfInBounds_toArray, List.set_cons_zero, List.set_cons_succ]
    refine wpAnyH_take (i := 24) (oi := ⟨some 160, _, _, _, _, _⟩) (v := ?_) rfl (by kernel_rfl) (by kernel_rfl) (by kernel_rfl) (fun _ _ _ h => h) (Or.inl ⟨by rfl, ?_⟩) (by assumption) ?_
    rotate_left
    · intro w hSw; (try dsimp only at hSw); go_simp; try with_reducible rfl
    simp only [Act.put, List.setIfInBounds_toArray, List.set_cons_zero, List.set_cons_succ]
    refine wpAnyH_take (i := 25) (oi := ⟨some 161, _, _, _, _, _⟩) (v := ?_) rfl (by kernel_rfl) (by kernel_rfl) (by kernel_rfl) (fun _ _ _ h => h) (Or.inl ⟨by rfl, ?_⟩) (by assumption) ?_
    rotate_left
    · intro w hSw; (try dsimp only at hSw); go_simp; try with_reducible rfl
    simp only [Act.put, List.setIfInBounds_toArray, List.set_cons_zero, List.set_cons_succ]
    refine wpAnyH_take (i := 26) (oi := ⟨some 162, _, _, _, _, _⟩) (v := undef) rfl (by kernel_rfl) (by kernel_rfl) (by kernel_rfl) (fun _ _ _ h => h) (Or.inr ⟨by rfl, rfl⟩) (by assumption) ?_
    simp only [Act.put, List.setIfInBounds_toArray, List.set_cons_zero, List.set_cons_succ]
    refine wpAnyH_take (i := 27) (oi := ⟨some 163, _, _, _, _, _⟩) (v := undef) rfl (by kernel_rfl) (by kernel_rfl) (by kernel_rfl) (fun _ _ _ h => h) (Or.inr ⟨by rfl, rfl⟩) (by assumption) ?_
    simp only [Act.put, List.setIfInBounds_toArray, List.set_cons_zero, List.set_cons_succ]
    refine wpAnyH_take (i := 28) (oi := ⟨some 164, _, _, _, _, _⟩) (v := undef) rfl (by kernel_rfl) (by kernel_rfl) (by kernel_rfl) (fun _ _ _ h => h) (Or.inr ⟨by rfl, rfl⟩) (by assumption) ?_
    simp only [Act.put, List.setIfInBounds_toArray, List.set_cons_zero, List.set_cons_succ]
    refine wpAnyH_take (i := 29) (oi := ⟨some 165, _, _, _, _, _⟩) (v := undef) rfl (by kernel_rfl) (by kernel_rfl) (by kernel_rfl) (fun _ _ _ h => h) (Or.inr ⟨by rfl, rfl⟩) (by assumption) ?_
    simp only [Act.put, List.setIfInBounds_toArray, List.set_cons_zero, List.set_cons_succ]
    refine wpAnyH_take (i := 30) (oi := ⟨some 166, _, _, _, _, _⟩) (v := undef) rfl (by kernel_rfl) (by kernel_rfl) (by kernel_rfl) (fun _ _ _ h => h) (Or.inr ⟨by rfl, rfl⟩) (by assumption) ?_
    simp only [Act.put, List.setIfInBounds_toArray, List.set_cons_zero, List.set_cons_succ]
    refine wpAnyH_take (i := 31) (oi := ⟨some 167, _, _, _, _, _⟩) (v := undef) rfl (by kernel_rfl) (by kernel_rfl) (by kernel_rfl) (fun _ _ _ h => h) (Or.inr ⟨by rfl, rfl⟩) (by assumption) ?_
    simp only [Act.put, List.setIfInBounds_toArray, List.set_cons_zero, List.set_cons_succ]
    refine wpAnyH_take (i := 32) (oi := ⟨some 168, _, _, _, _, _⟩) (v := undef) rfl (by kernel_rfl) (by kernel_rfl) (by kernel_rfl) (fun _ _ _ h => h) (Or.inr ⟨by rfl, rfl⟩) (by assumption) ?_
    simp only [Act.put, List.setIfInBounds_toArray, List.set_cons_zero, List.set_cons_succ]
    refine wpAnyH_take (i := 33) (oi := ⟨some 169, _, _, _, _, _⟩) (v := ?_) rfl (by kernel_rfl) (by kernel_rfl) (by kernel_rfl) (fun _ _ _ h => h) (Or.inl ⟨by rfl, ?_⟩) (by assumption) ?_
    rotate_left
    · intro w hSw; (try dsimp only at hSw); go_simp; try with_reducible rfl
    simp only [Act.put, List.setIfInBounds_toArray, List.set_cons_zero, List.set_cons_succ]
    refine wpAnyH_take (i := 34) (oi := ⟨some 170, _, _, _, _, _⟩) (v := ?_) rfl (by kernel_rfl) (by kernel_rfl) (by kernel_rfl) (fun _ _ _ h => h) (Or.inl ⟨by rfl, ?_⟩) (by assumption) ?_
    rotate_left
    · intro w hSw; (try dsimp only at hSw); go_simp; try with_reducible rfl
    simp only [Act.put, List.setIfInBounds_toArray, List.set_cons_zero, List.set_cons_succ]
    refine wpAnyH_take (i := 35) (oi := ⟨some 171, _, _, _, _, _⟩) (v := ?_) rfl (by kernel_rfl) (by kernel_rfl) (by kernel_rfl) (fun _ _ _ h => h) (Or.inl ⟨by rfl, ?_⟩) (by assumption) ?_
    rotate_left
    · intro w hSw; (try dsimp only at hSw); go_simp; try with_reducible rfl
    simp only [Act.put, List.setIfInBounds_toArray, List.set_cons_zero, List.set_cons_succ]
    refine wpAnyH_take (i := 36) (oi := ⟨some 172, _, _, _, _, _⟩) (v := ?_) rfl (by kernel_rfl) (by kernel_rfl) (by kernel_rfl) (fun _ _ _ h => h) (Or.inl ⟨by rfl, ?_⟩) (by assumption) ?_
    rotate_left
    · intro w hSw; (try dsimp only at hSw); go_simp; try with_reducible rfl
    simp only [Act.put, List.setIfInBounds_toArray, List.set_cons_zero, List.set_cons_succ]
    refine wpAnyH_take (i := 37) (oi := ⟨some 173, _, _, _, _, _⟩) (v := ?_) rfl (by kernel_rfl) (by kernel_rfl) (by kernel_rfl) (fun _ _ _ h => h) (Or.inl ⟨by rfl, ?_⟩) (by assumption) ?_
    rotate_left
    · intro w hSw; (try dsimp only at hSw); go_simp; try with_reducible rfl
    simp only [Act.put, List.setIfInBounds_toArray, List.set_cons_zero, List.set_cons_succ]
    refine wpAnyH_take (i := 38) (oi := ⟨some 174, _, _, _, _, _⟩) (v := undef) rfl (by kernel_rfl) (by kernel_rfl) (by kernel_rfl) (fun _ _ _ h => h) (Or.inr ⟨by rfl, rfl⟩) (by assumption) ?_
    simp only [Act.put, List.setIfInBounds_toArray, List.set_cons_zero, List.set_cons_succ]
    refine wpAnyH_take (i := 39) (oi := ⟨some 175, _, _, _, _, _⟩) (v := undef) rfl (by kernel_rfl) (by kernel_rfl) (by kernel_rfl) (fun _ _ _ h => h) (Or.inr ⟨by rfl, rfl⟩) (by assumption) ?_
    simp only [Act.put, List.setIfInBounds_toArray, List.set_cons_zero, List.set_cons_succ]
    refine wpAnyH_take (i := 40) (oi := ⟨some 176, _, _, _, _, _⟩) (v := undef) rfl (by kernel_rfl) (by kernel_rfl) (by kernel_rfl) (fun _ _ _ h => h) (Or.inr ⟨by rfl, rfl⟩) (by assumption) ?_
    simp only [Act.put, List.setIfInBounds_toArray, List.set_cons_zero, List.set_cons_succ]
    refine wpAnyH_take (i := 41) (oi := ⟨some 177, _, _, _, _, _⟩) (v := undef) rfl (by kernel_rfl) (by kernel_rfl) (by kernel_rfl) (fun _ _ _ h => h) (Or.inr ⟨by rfl, rfl⟩) (by assumption) ?_
    simp only [Act.put, List.setIfInBounds_toArray, List.set_cons_zero, List.set_cons_succ]
    refine wpAnyH_take (i := 42) (oi := ⟨some 178, _, _, _, _, _⟩) (v := undef) rfl (by kernel_rfl) (by kernel_rfl) (by kernel_rfl) (fun _ _ _ h => h) (Or.inr ⟨by rfl, rfl⟩) (by assumption) ?_
    simp only [Act.put, List.setIfInBounds_toArray, List.set_cons_zero, List.set_cons_succ]
    refine wpAnyH_take (i := 43) (oi := ⟨some 179, _, _, _, _, _⟩) (v := ?_) rfl (by kernel_rfl) (by kernel_rfl) (by kernel_rfl) (fun _ _ _ h => h) (Or.inl ⟨by rfl, ?_⟩) (by assumption) ?_
    rotate_left
    · intro w hSw; (try dsimp only at hSw); go_simp; try with_reducible rfl
    simp only [Act.put, List.setIfInBounds_toArray, List.set_cons_zero, List.set_cons_succ]
    refine wpAnyH_take (i := 44) (oi := ⟨some 180, _, _, _, _, _⟩) (v := ?_) rfl (by kernel_rfl) (by kernel_rfl) (by kernel_rfl) (fun _ _ _ h => h) (Or.inl ⟨by rfl, ?_⟩) (by assumption) ?_
    rotate_left
    · intro w hSw; (try dsimp only at hSw); go_simp; try with_reducible rfl
    simp only [Act.put, List.setIfInBounds_toArray, List.set_cons_zero, List.set_cons_succ]
    refine wpAnyH_take (i := 45) (oi := ⟨some 181, _, _, _, _, _⟩) (v := ?_) rfl (by kernel_rfl) (by kernel_rfl) (by kernel_rfl) (fun _ _ _ h => h) (Or.inl ⟨by rfl, ?_⟩) (by assumption) ?_
    rotate_left
    · intro w hSw; (try dsimp only at hSw); go_simp; try with_reducible rfl
    simp only [Act.put, List.setIfInBounds_toArray, List.set_cons_zero, List.set_cons_succ]
    refine wpAnyH_take (i := 46) (oi := ⟨some 182, _, _, _, _, _⟩) (v := ?_) rfl (by kernel_rfl) (by kernel_rfl) (by kernel_rfl) (fun _ _ _ h => h) (Or.inl ⟨by rfl, ?_⟩) (by assumption) ?_
    rotate_left
    · intro w hSw; (try dsimp only at hSw); go_simp; try with_reducible rfl
    simp only [Act.put, List.setIfInBounds_toArray, List.set_cons_zero, List.set_cons_succ]
    refine wpAnyH_take (i := 47) (oi := ⟨some 183, _, _, _, _, _⟩) (v := ?_) rfl (by kernel_rfl) (by kernel_rfl) (by kernel_rfl) (fun _ _ _ h => h) (Or.inl ⟨by rfl, ?_⟩) (by assumption) ?_
    rotate_left
    · intro w hSw; (try dsimp only at hSw); go_simp; try with_reducible rfl
    simp only [Act.put, List.setIfInBounds_toArray, List.set_cons_zero, List.set_cons_succ]
    refine wpAnyH_take (i := 48) (oi := ⟨some 184, _, _, _, _, _⟩) (v := ?_) rfl (by kernel_rfl) (by kernel_rfl) (by kernel_rfl) (fun _ _ _ h => h) (Or.inl ⟨by rfl, ?_⟩) (by assumption) ?_
    rotate_left
    · intro w hSw; (try dsimp only at hSw); go_simp; try with_reducible rfl
    simp only [Act.put, List.setIfInBounds_toArray, List.set_cons_zero, List.set_cons_succ]
    refine wpAnyH_take (i := 49) (oi := ⟨some 185, _, _, _, _, _⟩) (v := ?_) rfl (by kernel_rfl) (by kernel_rfl) (by kernel_rfl) (fun _ _ _ h => h) (Or.inl ⟨by rfl, ?_⟩) (by assumption) ?_
    rotate_left
    · intro w hSw; (try dsimp only at hSw); go_simp; try with_reducible rfl
    simp only [Act.put, List.setIfInBounds_toArray, List.set_cons_zero, List.set_cons_succ]
    refine wpAnyH_take (i := 50) (oi := ⟨some 186, _, _, _, _, _⟩) (v := ?_) rfl (by kernel_rfl) (by kernel_rfl) (by kernel_rfl) (fun _ _ _ h => h) (Or.inl ⟨by rfl, ?_⟩) (by assumption) ?_
    rotate_left
    · intro w hSw; (try dsimp only at hSw); go_simp; try with_reducible rfl
    simp only [Act.put, List.setIfInBounds_toArray, List.set_cons_zero, List.set_cons_succ]
    refine wpAnyH_take (i := 51) (oi := ⟨some 187, _, _, _, _, _⟩) (v := ?_) rfl (by kernel_rfl) (by kernel_rfl) (by kernel_rfl) (fun _ _ _ h => h) (Or.inl ⟨by rfl, ?_⟩) (by assumption) ?_
    rotate_left
    · intro w hSw; (try dsimp only at hSw); go_simp; try with_reducible rfl
    simp only [Act.put, List.setIfInBounds_toArray, List.set_cons_zero, List.set_cons_succ]
    refine wpAnyH_take (i := 52) (oi := ⟨some 188, _, _, _, _, _⟩) (v := ?_) rfl (by kernel_rfl) (by kernel_rfl) (by kernel_rfl) (fun _ _ _ h => h) (Or.inl ⟨by rfl, ?_⟩) (by assumption) ?_
    rotate_left
    · intro w hSw; (try dsimp only at hSw); go_simp; try with_reducible rfl
    simp only [Act.put, List.setIfInBounds_toArray, List.set_cons_zero, List.set_cons_succ]
    refine wpAnyH_take (i := 53) (oi := ⟨some 189, _, _, _, _, _⟩) (v := ?_) rfl (by kernel_rfl) (by kernel_rfl) (by kernel_rfl) (fun _ _ _ h => h) (Or.inl ⟨by rfl, ?_⟩) (by assumption) ?_
    rotate_left
    · intro w hSw; (try dsimp only at hSw); go_simp; try with_reducible rfl
    simp only [Act.put, List.setIfInBounds_toArray, List.set_cons_zero, List.set_cons_succ]
    refine wpAnyH_take (i := 54) (oi := ⟨some 6, _, _, _, _, _⟩) (v := ?_) rfl (by kernel_rfl) (by kernel_rfl) (by kernel_rfl) (fun _ _ _ h => h) (Or.inl ⟨by rfl, ?_⟩) (by assumption) ?_
    rotate_left
    · intro w hSw; (try dsimp only at hSw); go_simp; try with_reducible rfl
    simp only [Act.put, List.setIfInBounds_toArray, List.set_cons_zero, List.set_cons_succ]
    refine wpAnyH_done (by kernel_rfl) ?_ _
    have H := KH.out _ hHeld
    clear KS KH hHeld
    go_wp2
    go_ret
    exact ⟨rfl, H.old⟩
  · have ET := Lib.hid hT; clear hT
    have ED := Lib.hid hD; clear hD
    have HLE : Hid (Y ≤ X) := Lib.hid (of_decide_eq_true (hbS.out.trans hbs))
    clear hbS; subst hbs
    go_wp2_with fail
    replace H := (H.box2 (.int .u64 0) (.int .u64 0) 24)
    have KS : Hid (∀ w' : World, Held w [.cell (wz.heap.size) 0 (.int .u64 0), .cell (wz.heap.size) 1 (.int .u64 0), .cell (w10.heap.size) 0 (.slice qa qk qc), .num (.slice qa qk qc) (Q) 19, .cell (w9.heap.size) 0 (.slice pa pk pc), .num (.slice pa pk pc) (P) 24, .cell (w8.heap.size) 0 (.int .u64 dh), .cell (w8.heap.size) 1 (.int .u64 dl), .cell (w7.heap.size) 0 (.int .u64 0), .cell (w7.heap.size) 1 (.int .u64 0), .cell (w6.heap.size) 0 (.int .u64 th), .cell (w6.heap.size) 1 (.int .u64 tl), .cell (w5.heap.size) 0 (.slice ma mk mc), .num (.slice ma mk mc) (T) 23, .cell (w4.heap.size) 0 (.slice ca ck cc), .num (.slice ca ck cc) (n) 5, .cell (w3.heap.size) 0 (.slice ba bk bc), .num (.slice ba bk bc) (Y) 18, .cell (w2.heap.size) 0 (.slice aa ak ac), .num (.slice aa ak ac) (X) 18, .cell (w.heap.size + 1) 0 (.int .u64 yh), .cell (w.heap.size + 1) 1 (.int .u64 yl), .cell (w.heap.size) 0 (.int .u64 xh), .cell (w.heap.size) 1 (.int .u64 xl)] w' → w'.cell? ⟨w6.heap.size, 0, none⟩ = some (.int .u64 th) ∧ w'.cell? ⟨w6.heap.size, 1, none⟩ = some (.int .u64 tl) ∧ w'.cell? ⟨w9.heap.size, 0, none⟩ = some (.slice pa pk pc) ∧ w'.cell? ⟨w7.heap.size, 0, none⟩ = some (.int .u64 0) ∧ w'.cell? ⟨w7.heap.size, 1, none⟩ = some (.int .u64 0) ∧ w'.cell? ⟨w10.heap.size, 0, none⟩ = some (.slice qa qk qc) ∧ w'.cell? ⟨w8.heap.size, 0, none⟩ = some (.int .u64 dh) ∧ w'.cell? ⟨w8.heap.size, 1, none⟩ = some (.int .u64 dl) ∧ w'.cell? ⟨w2.heap.size, 0, none⟩ = some (.slice aa ak ac) ∧ w'.cell? ⟨w3.heap.size, 0, none⟩ = some (.slice ba bk bc) ∧ w'.cell? ⟨wz.heap.size, 0, none⟩ = some (.int .u64 0) ∧ w'.cell? ⟨wz.heap.size, 1, none⟩ = some (.int .u64 0) ∧ Held w [.cell (wz.heap.size) 0 (.int .u64 0), .cell (wz.heap.size) 1 (.int .u64 0), .cell (w10.heap.size) 0 (.slice qa qk qc), .num (.slice qa qk qc) (Q) 19, .cell (w9.heap.size) 0 (.slice pa pk pc), .num (.slice pa pk pc) (P) 24, .cell (w8.heap.size) 0 (.int .u64 dh), .cell (w8.heap.size) 1 (.int .u64 dl), .cell (w7.heap.size) 0 (.int .u64 0), .cell (w7.heap.size) 1 (.int .u64 0), .cell (w6.heap.size) 0 (.int .u64 th), .cell (w6.heap.size) 1 (.int .u64 tl), .cell (w5.heap.size) 0 (.slice ma mk mc), .num (.slice ma mk mc) (T) 23, .cell (w4.heap.size) 0 (.slice ca ck cc), .num (.slice ca ck cc) (n) 5, .cell (w3.heap.size) 0 (.slice ba bk bc), .num (.slice ba bk bc) (Y) 18, .cell (w2.heap.size) 0 (.slice aa ak ac), .num (.slice aa ak ac) (X) 18, .cell (w.heap.size + 1) 0 (.int .u64 yh), .cell (w.heap.size + 1) 1 (.int .u64 yl), .cell (w.heap.size) 0 (.int .u64 xh), .cell (w.heap.size) 1 (.int .u64 xl)] w') := Lib.hid (fun _ h => ⟨h.cell (w6.heap.size) 0 (.int .u64 th) (List.Mem.tail _ (List.Mem.tail _ (List.Mem.tail _ (List.Mem.tail _ (List.Mem.tail _ (List.Mem.tail _ (List.Mem.tail _ (List.Mem.tail _ (List.Mem.tail _ (List.Mem.tail _ (List.Mem.head _))))))))))), h.cell (w6.heap.size) 1 (.int .u64 tl) (List.Mem.tail _ (List.Mem.tail _ (List.Mem.tail _ (List.Mem.tail _ (List.Mem.tail _ (List.Mem.tail _ (List.Mem.tail _ (List.Mem.tail _ (List.Mem.tail _ (List.Mem.tail _ (List.Mem.tail _ (List.Mem.head _)))))))))))), h.cell (w9.heap.size) 0 (.slice pa pk pc) (List.Mem.tail _ (List.Mem.tail _ (List.Mem.tail _ (List.Mem.tail _ (List.Mem.head _))))), h.cell (w7.heap.size) 0 (.int .u64 0) (List.Mem.tail _ (List.Mem.tail _ (List.Mem.tail _ (List.Mem.tail _ (List.Mem.tail _ (List.Mem.tail _ (List.Mem.tail _ (List.Mem.tail _ (List.Mem.head _))))))))), h.cell (w7.heap.size) 1 (.int .u64 0) (List.Mem.tail _ (List.Mem.tail _ (List.Mem.tail _ (List.Mem.tail _ (List.Mem.tail _ (List.Mem.tail _ (List.Mem.tail _ (List.Mem.tail _ (List.Mem.tail _ (List.Mem.head _)))))))))), h.cell (w10.heap.size) 0 (.slice qa qk qc) (List.Mem.tail _ (List.Mem.tail _ (List.Mem.head _))), h.cell (w8.heap.size) 0 (.int .u64 dh) (List.Mem.tail _ (List.Mem.tail _ (List.Mem.tail _ (List.Mem.tail _ (List.Mem.tail _ (List.Mem.tail _ (List.Mem.head _))))))), h.cell (w8.heap.size) 1 (.int .u64 dl) (List.Mem.tail _ (List.Mem.tail _ (List.Mem.tail _ (List.Mem.tail _ (List.Mem.tail _ (List.Mem.tail _ (List.Mem.tail _ (List.Mem.head _)))))))), h.cell (w2.heap.size) 0 (.slice aa ak ac) (List.Mem.tail _ (List.Mem.tail _ (List.Mem.tail _ (List.Mem.tail _ (List.Mem.tail _ (List.Mem.tail _ (List.Mem.tail _ (List.Mem.tail _ (List.Mem.tail _ (List.Mem.tail _ (List.Mem.tail _ (List.Mem.tail _ (List.Mem.tail _ (List.Mem.tail _ (List.Mem.tail _ (List.Mem.tail _ (List.Mem.tail _ (List.Mem.tail _ (List.Mem.head _))))))))))))))))))), h.cell (w3.heap.size) 0 (.slice ba bk bc) (List.Mem.tail _ (List.Mem.tail _ (List.Mem.tail _ (List.Mem.tail _ (List.Mem.tail _ (List.Mem.tail _ (List.Mem.tail _ (List.Mem.tail _ (List.Mem.tail _ (List.Mem.tail _ (List.Mem.tail _ (List.Mem.tail _ (List.Mem.tail _ (List.Mem.tail _ (List.Mem.tail _ (List.Mem.tail _ (List.Mem.head _))))))))))))))))), h.cell (wz.heap.size) 0 (.int .u64 0) (List.Mem.head _), h.cell (wz.heap.size) 1 (.int .u64 0) (List.Mem.tail _ (List.Mem.head _)), h⟩)
    have KH : Hid (∀ w' : World, w'.cell? ⟨w6.heap.size, 0, none⟩ = some (.int .u64 th) ∧ w'.cell? ⟨w6.heap.size, 1, none⟩ = some (.int .u64 tl) ∧ w'.cell? ⟨w9.heap.size, 0, none⟩ = some (.slice pa pk pc) ∧ w'.cell? ⟨w7.heap.size, 0, none⟩ = some (.int .u64 0) ∧ w'.cell? ⟨w7.heap.size, 1, none⟩ = some (.int .u64 0) ∧ w'.cell? ⟨w10.heap.size, 0, none⟩ = some (.slice qa qk qc) ∧ w'.cell? ⟨w8.heap.size, 0, none⟩ = some (.int .u64 dh) ∧ w'.cell? ⟨w8.heap.size, 1, none⟩ = some (.int .u64 dl) ∧ w'.cell? ⟨w2.heap.size, 0, none⟩ = some (.slice aa ak ac) ∧ w'.cell? ⟨w3.heap.size, 0, none⟩ = some (.slice ba bk bc) ∧ w'.cell? ⟨wz.heap.size, 0, none⟩ = some (.int .u64 0) ∧ w'.cell? ⟨wz.heap.size, 1, none⟩ = some (.int .u64 0) ∧ Held w [.cell (wz.heap.size) 0 (.int .u64 0), .cell (wz.heap.size) 1 (.int .u64 0), .cell (w10.heap.size) 0 (.slice qa qk qc), .num (.slice qa qk qc) (Q) 19, .cell (w9.heap.size) 0 (.slice pa pk pc), .num (.slice pa pk pc) (P) 24, .cell (w8.heap.size) 0 (.int .u64 dh), .cell (w8.heap.size) 1 (.int .u64 dl), .cell (w7.heap.size) 0 (.int .u64 0), .cell (w7.heap.size) 1 (.int .u64 0), .cell (w6.heap.size) 0 (.int .u64 th), .cell (w6.heap.size) 1 (.int .u64 tl), .cell (w5.heap.size) 0 (.slice ma mk mc), .num (.slice ma mk mc) (T) 23, .cell (w4.heap.size) 0 (.slice ca ck cc), .num (.slice ca ck cc) (n) 5, .cell (w3.heap.size) 0 (.slice ba bk bc), .num (.slice ba bk bc) (Y) 18, .cell (w2.heap.size) 0 (.slice aa ak ac), .num (.slice aa ak ac) (X) 18, .cell (w.heap.size + 1) 0 (.int .u64 yh), .cell (w.heap.size + 1) 1 (.int .u64 yl), .cell (w.heap.size) 0 (.int .u64 xh), .cell (w.heap.size) 1 (.int .u64 xl)] w' → Held w [.cell (wz.heap.size) 0 (.int .u64 0), .cell (wz.heap.size) 1 (.int .u64 0), .cell (w10.heap.size) 0 (.slice qa qk qc), .num (.slice qa qk qc) (Q) 19, .cell (w9.heap.size) 0 (.slice pa pk pc), .num (.slice pa pk pc) (P) 24, .cell (w8.heap.size) 0 (.int .u64 dh), .cell (w8.heap.size) 1 (.int .u64 dl), .cell (w7.heap.size) 0 (.int .u64 0), .cell (w7.heap.size) 1 (.int .u64 0), .cell (w6.heap.size) 0 (.int .u64 th), .cell (w6.heap.size) 1 (.int .u64 tl), .cell (w5.heap.size) 0 (.slice ma mk mc), .num (.slice ma mk mc) (T) 23, .cell (w4.heap.size) 0 (.slice ca ck cc), .num (.slice ca ck cc) (n) 5, .cell (w3.heap.size) 0 (.slice ba bk bc), .num (.slice ba bk bc) (Y) 18, .cell (w2.heap.size) 0 (.slice aa ak ac), .num (.slice aa ak ac) (X) 18, .cell (w.heap.size + 1) 0 (.int .u64 yh), .cell (w.heap.size + 1) 1 (.int .u64 yl), .cell (w.heap.size) 0 (.int .u64 xh), .cell (w.heap.size) 1 (.int .u64 xl)] w') := Lib.hid (fun _ h => h.2.2.2.2.2.2.2.2.2.2.2.2)
    refine wp_region_held_drew (S := fun w' => w'.cell? ⟨w6.heap.size, 0, none⟩ = some (.int .u64 th) ∧ w'.cell? ⟨w6.heap.size, 1, none⟩ = some (.int .u64 tl) ∧ w'.cell? ⟨w9.heap.size, 0, none⟩ = some (.slice pa pk pc) ∧ w'.cell? ⟨w7.heap.size, 0, none⟩ = some (.int .u64 0) ∧ w'.cell? ⟨w7.heap.size, 1, none⟩ = some (.int .u64 0) ∧ w'.cell? ⟨w10.heap.size, 0, none⟩ = some (.slice qa qk qc) ∧ w'.cell? ⟨w8.heap.size, 0, none⟩ = some (.int .u64 dh) ∧ w'.cell? ⟨w8.heap.size, 1, none⟩ = some (.int .u64 dl) ∧ w'.cell? ⟨w2.heap.size, 0, none⟩ = some (.slice aa ak ac) ∧ w'.cell? ⟨w3.heap.size, 0, none⟩ = some (.slice ba bk bc) ∧ w'.cell? ⟨wz.heap.size, 0, none⟩ = some (.int .u64 0) ∧ w'.cell? ⟨wz.heap.size, 1, none⟩ = some (.int .u64 0) ∧ Held w [.cell (wz.heap.size) 0 (.int .u64 0), .cell (wz.heap.size) 1 (.int .u64 0), .cell (w10.heap.size) 0 (.slice qa qk qc), .num (.slice qa qk qc) (Q) 19, .cell (w9.heap.size) 0 (.slice pa pk pc), .num (.slice pa pk pc) (P) 24, .cell (w8.heap.size) 0 (.int .u64 dh), .cell (w8.heap.size) 1 (.int .u64 dl), .cell (w7.heap.size) 0 (.int .u64 0), .cell (w7.heap.size) 1 (.int .u64 0), .cell (w6.heap.size) 0 (.int .u64 th), .cell (w6.heap.size) 1 (.int .u64 tl), .cell (w5.heap.size) 0 (.slice ma mk mc), .num (.slice ma mk mc) (T) 23, .cell (w4.heap.size) 0 (.slice ca ck cc), .num (.slice ca ck cc) (n) 5, .cell (w3.heap.size) 0 (.slice ba bk bc), .num (.slice ba bk bc) (Y) 18, .cell (w2.heap.size) 0 (.slice aa ak ac), .num (.slice aa ak ac) (X) 18, .cell (w.heap.size + 1) 0 (.int .u64 yh), .cell (w.heap.size + 1) 1 (.int .u64 yl), .cell (w.heap.size) 0 (.int .u64 xh), .cell (w.heap.size) 1 (.int .u64 xl)] w') (by kernel_rfl) (KS.out _ H.drew) (fun hHeld => ?_)
    clear H
    refine wpAnyH_take (i := 0) (oi := ⟨some 136, _, _, _, _, _⟩) (v := ?_) rfl (by kernel_rfl) (by kernel_rfl) (by kernel_rfl) (fun _ _ _ h => h) (Or.inl ⟨by rfl, ?_⟩) (by assumption) ?_
    rotate_left
    · intro w hSw; (try dsimp only at hSw); go_simp; try with_reducible rfl
    simp only [Act.put, List.setIfInBounds_toArray, List.set_cons_zero, List.set_cons_succ]
    refine wpAnyH_take (i := 1) (oi := ⟨some 137, _, _, _, _, _⟩) (v := ?_) rfl (by kernel_rfl) (by kernel_rfl) (by kernel_rfl) (fun _ _ _ h => h) (Or.inl ⟨by rfl, ?_⟩) (by assumption) ?_
    rotate_left
    · intro w hSw; (try dsimp only at hSw); go_simp; try with_reducible rfl
    simp only [Act.put, List.setIfInBounds_toArray, List.set_cons_zero, List.set_cons_succ]
    refine wpAnyH_take (i := 2) (oi := ⟨some 138, _, _, _, _, _⟩) (v := ?_) rfl (by kernel_rfl) (by kernel_rfl) (by kernel_rfl) (fun _ _ _ h => h) (Or.inl ⟨by rfl, ?_⟩) (by assumption) ?_
    rotate_left
    · intro w hSw; (try dsimp only at hSw); go_simp; try with_reducible rfl
    simp only [Act.put, List.setIfInBounds_toArray, List.set_cons_zero, List.set_cons_succ]
    refine wpAnyH_take (i := 3) (oi := ⟨some 139, _, _, _, _, _⟩) (v := ?_) rfl (by kernel_rfl) (by kernel_rfl) (by kernel_rfl) (fun _ _ _ h => h) (Or.inl ⟨by rfl, ?_⟩) (by assumption) ?_
    rotate_left
    · intro w hSw; (try dsimp only at hSw); go_simp; try with_reducible rfl
    simp only [Act.put, List.setIfInBounds_toArray, List.set_cons_zero, List.set_cons_succ]
    refine wpAnyH_take (i := 4) (oi := ⟨some 140, _, _, _, _, _⟩) (v := ?_) rfl (by kernel_rfl) (by kernel_rfl) (by kernel_rfl) (fun _ _ _ h => h) (Or.inl ⟨by rfl, ?_⟩) (by assumption) ?_
    rotate_left
    · intro w hSw; (try dsimp only at hSw); go_simp; try with_reducible rfl
    simp only [Act.put, List.setIfInBounds_toArray, List.set_cons_zero, List.set_cons_succ]
    refine wpAnyH_take (i := 5) (oi := ⟨some 141, _, _, _, _, _⟩) (v := ?_) rfl (by kernel_rfl) (by kernel_rfl) (by kernel_rfl) (fun _ _ _ h => h) (Or.inl ⟨by rfl, ?_⟩) (by assumption) ?_
    rotate_left
    · intro w hSw; (try dsimp only at hSw); go_simp; try with_reducible rfl
    simp only [Act.put, List.setIfInBounds_toArray, List.set_cons_zero, List.set_cons_succ]
    refine wpAnyH_ready (rs := [6]) (by kernel_rfl) (by simp) ?_
    refine AllReadyH.cons (o := ⟨some 142, _, _, _, _, _⟩) rfl (fun K hK => ?_) AllReadyH.nil
    go_simp
    (with_reducible refine (is_true th tl pa pk pc P 24 _ (by omega) (by omega) (by omega) (by omega) (Held.big (KH.out _ hHeld) (.slice pa pk pc) (P) 24 (List.Mem.tail _ (List.Mem.tail _ (List.Mem.tail _ (List.Mem.tail _ (List.Mem.tail _ (List.Mem.head _))))))) (by omega) ET.out).mono ?_)
    rintro e w' ⟨rfl, hb⟩
    go_wp2_with fail
    refine hK.out _ _ ?_ (fun hNew => ?_)
    · exact KS.out _ (Held.below (KH.out _ hHeld) hb)
    clear hK K hHeld
    clear hb
    have hHeld := hNew
    clear hNew
    try simp only [Act.put, List.setIfInBounds_toArray, List.set_cons_zero, List.set_cons_succ]
    refine wpAnyH_take (i := 7) (oi := ⟨some 143, _, _, _, _, _⟩) (v := ?_) rfl (by kernel_rfl) (by kernel_rfl) (by kernel_rfl) (fun _ _ _ h => h) (Or.inl ⟨by rfl, ?_⟩) (by assumption) ?_
    rotate_left
    · intro w hSw; (try dsimp only at hSw); go_simp; try with_reducible rfl
    simp only [Act.put, List.setIfInBounds_toArray, List.set_cons_zero, List.set_cons_succ]
    refine wpAnyH_take (i := 8) (oi := ⟨some 144, _, _, _, _, _⟩) (v := ?_) rfl (by kernel_rfl) (by kernel_rfl) (by kernel_rfl) (fun _ _ _ h => h) (Or.inl ⟨by rfl, ?_⟩) (by assumption) ?_
    rotate_left
    · intro w hSw; (try dsimp only at hSw); go_simp; try with_reducible rfl
    simp only [Act.put, List.setIfInBounds_toArray, List.set_cons_zero, List.set_cons_succ]
    refine wpAnyH_take (i := 9) (oi := ⟨some 145, _, _, _, _, _⟩) (v := undef) rfl (by kernel_rfl) (by kernel_rfl) (by kernel_rfl) (fun _ _ _ h => h) (Or.inr ⟨by rfl, rfl⟩) (by assumption) ?_
    simp only [Act.put, List.setIfInBounds_toArray, List.set_cons_zero, List.set_cons_succ]
    refine wpAnyH_take (i := 10) (oi := ⟨some 146, _, _, _, _, _⟩) (v := undef) rfl (by kernel_rfl) (by kernel_rfl) (by kernel_rfl) (fun _ _ _ h => h) (Or.inr ⟨by rfl, rfl⟩) (by assumption) ?_
    simp only [Act.put, List.setIfInBounds_toArray, List.set_cons_zero, List.set_cons_succ]
    refine wpAnyH_take (i := 11) (oi := ⟨some 147, _, _, _, _, _⟩) (v := undef) rfl (by kernel_rfl) (by kernel_rfl) (by kernel_rfl) (fun _ _ _ h => h) (Or.inr ⟨by rfl, rfl⟩) (by assumption) ?_
    simp only [Act.put, List.setIfInBounds_toArray, List.set_cons_zero, List.set_cons_succ]
    refine wpAnyH_take (i := 12) (oi := ⟨some 148, _, _, _, _, _⟩) (v := undef) rfl (by kernel_rfl) (by kernel_rfl) (by kernel_rfl) (fun _ _ _ h => h) (Or.inr ⟨by rfl, rfl⟩) (by assumption) ?_
    simp only [Act.put, List.setIfInBounds_toArray, List.set_cons_zero, List.set_cons_succ]
    refine wpAnyH_take (i := 13) (oi := ⟨some 149, _, _, _, _, _⟩) (v := undef) rfl (by kernel_rfl) (by kernel_rfl) (by kernel_rfl) (fun _ _ _ h => h) (Or.inr ⟨by rfl, rfl⟩) (by assumption) ?_
    simp only [Act.put, List.setIfInBounds_toArray, List.set_cons_zero, List.set_cons_succ]
    refine wpAnyH_take (i := 14) (oi := ⟨some 150, _, _, _, _, _⟩) (v := undef) rfl (by kernel_rfl) (by kernel_rfl) (by kernel_rfl) (fun _ _ _ h => h) (Or.inr ⟨by rfl, rfl⟩) (by assumption) ?_
    simp only [Act.put, List.setIfInBounds_toArray, List.set_cons_zero, List.set_cons_succ]
    refine wpAnyH_take (i := 15) (oi := ⟨some 151, _, _, _, _, _⟩) (v := undef) rfl (by kernel_rfl) (by kernel_rfl) (by kernel_rfl) (fun _ _ _ h => h) (Or.inr ⟨by rfl, rfl⟩) (by assumption) ?_
    simp only [Act.put, List.setIfInBounds_toArray, List.set_cons_zero, List.set_cons_succ]
    refine wpAnyH_take (i := 16) (oi := ⟨some 152, _, _, _, _, _⟩) (v := ?_) rfl (by kernel_rfl) (by kernel_rfl) (by kernel_rfl) (fun _ _ _ h => h) (Or.inl ⟨by rfl, ?_⟩) (by assumption) ?_
    rotate_left
    · intro w hSw; (try dsimp only at hSw); go_simp; try with_reducible rfl
    simp only [Act.put, List.setIfInBounds_toArray, List.set_cons_zero, List.set_cons_succ]
    refine wpAnyH_take (i := 17) (oi := ⟨some 153, _, _, _, _, _⟩) (v := ?_) rfl (by kernel_rfl) (by kernel_rfl) (by kernel_rfl) (fun _ _ _ h => h) (Or.inl ⟨by rfl, ?_⟩) (by assumption) ?_
    rotate_left
    · intro w hSw; (try dsimp only at hSw); go_simp; try with_reducible rfl
    simp only [Act.put, List.setIfInBounds_toArray, List.set_cons_zero, List.set_cons_succ]
    refine wpAnyH_take (i := 18) (oi := ⟨some 154, _, _, _, _, _⟩) (v := ?_) rfl (by kernel_rfl) (by kernel_rfl) (by kernel_rfl) (fun _ _ _ h => h) (Or.inl ⟨by rfl, ?_⟩) (by assumption) ?_
    rotate_left
    · intro w hSw; (try dsimp only at hSw); go_simp; try with_reducible rfl
    simp only [Act.put, List.setIfInBounds_toArray, List.set_cons_zero, List.set_cons_succ]
    refine wpAnyH_take (i := 19) (oi := ⟨some 155, _, _, _, _, _⟩) (v := ?_) rfl (by kernel_rfl) (by kernel_rfl) (by kernel_rfl) (fun _ _ _ h => h) (Or.inl ⟨by rfl, ?_⟩) (by assumption) ?_
    rotate_left
    · intro w hSw; (try dsimp only at hSw); go_simp; try with_reducible rfl
    simp only [Act.put, List.setIfInBounds_toArray, List.set_cons_zero, List.set_cons_succ]
    refine wpAnyH_take (i := 20) (oi := ⟨some 156, _, _, _, _, _⟩) (v := ?_) rfl (by kernel_rfl) (by kernel_rfl) (by kernel_rfl) (fun _ _ _ h => h) (Or.inl ⟨by rfl, ?_⟩) (by assumption) ?_
    rotate_left
    · intro w hSw; (try dsimp only at hSw); go_simp; try with_reducible rfl
    simp only [Act.put, List.setIfInBounds_toArray, List.set_cons_zero, List.set_cons_succ]
    refine wpAnyH_take (i := 21) (oi := ⟨some 157, _, _, _, _, _⟩) (v := undef) rfl (by kernel_rfl) (by kernel_rfl) (by kernel_rfl) (fun _ _ _ h => h) (Or.inr ⟨by rfl, rfl⟩) (by assumption) ?_
    simp only [Act.put, List.setIfInBounds_toArray, List.set_cons_zero, List.set_cons_succ]
    refine wpAnyH_take (i := 22) (oi := ⟨some 158, _, _, _, _, _⟩) (v := undef) rfl (by kernel_rfl) (by kernel_rfl) (by kernel_rfl) (fun _ _ _ h => h) (Or.inr ⟨by rfl, rfl⟩) (by assumption) ?_
    simp only [Act.put, List.setIfInBounds_toArray, List.set_cons_zero, List.set_cons_succ]
    refine wpAnyH_take (i := 23) (oi := ⟨some 159, _, _, _, _, _⟩) (v := undef) rfl (by kernel_rfl) (by kernel_rfl) (by kernel_rfl) (fun _ _ _ h => h) (Or.inr ⟨by rfl, rfl⟩) (by assumption) ?_
    simp only [Act.put, List.setIfInBounds_toArray, List.set_cons_zero, List.set_cons_succ]
    refine wpAnyH_take (i := 24) (oi := ⟨some 160, _, _, _, _, _⟩) (v := ?_) rfl (by kernel_rfl) (by kernel_rfl) (by kernel_rfl) (fun _ _ _ h => h) (Or.inl ⟨by rfl, ?_⟩) (by assumption) ?_
    rotate_left
    · intro w hSw; (try dsimp only at hSw); go_simp; try with_reducible rfl
    simp only [Act.put, List.setIfInBounds_toArray, List.set_cons_zero, List.set_cons_succ]
    refine wpAnyH_take (i := 25) (oi := ⟨some 161, _, _, _, _, _⟩) (v := ?_) rfl (by kernel_rfl) (by kernel_rfl) (by kernel_rfl) (fun _ _ _ h => h) (Or.inl ⟨by rfl, ?_⟩) (by assumption) ?_
    rotate_left
    · intro w hSw; (try dsimp only at hSw); go_simp; try with_reducible rfl
    simp only [Act.put, List.setIfInBounds_toArray, List.set_cons_zero, List.set_cons_succ]
    refine wpAnyH_take (i := 26) (oi := ⟨some 162, _, _, _, _, _⟩) (v := ?_) rfl (by kernel_rfl) (by kernel_rfl) (by kernel_rfl) (fun _ _ _ h => h) (Or.inl ⟨by rfl, ?_⟩) (by assumption) ?_
    rotate_left
    · intro w hSw; (try dsimp only at hSw); go_simp; try with_reducible rfl
    simp only [Act.put, List.setIfInBounds_toArray, List.set_cons_zero, List.set_cons_succ]
    refine wpAnyH_take (i := 27) (oi := ⟨some 163, _, _, _, _, _⟩) (v := ?_) rfl (by kernel_rfl) (by kernel_rfl) (by kernel_rfl) (fun _ _ _ h => h) (Or.inl ⟨by rfl, ?_⟩) (by assumption) ?_
    rotate_left
    · intro w hSw; (try dsimp only at hSw); go_simp; try with_reducible rfl
    simp only [Act.put, List.setIfInBounds_toArray, List.set_cons_zero, List.set_cons_succ]
    refine wpAnyH_take (i := 28) (oi := ⟨some 164, _, _, _, _, _⟩) (v := ?_) rfl (by kernel_rfl) (by kernel_rfl) (by kernel_rfl) (fun _ _ _ h => h) (Or.inl ⟨by rfl, ?_⟩) (by assumption) ?_
    rotate_left
    · intro w hSw; (try dsimp only at hSw); go_simp; try with_reducible rfl
    simp only [Act.put, List.setIfInBounds_toArray, List.set_cons_zero, List.set_cons_succ]
    refine wpAnyH_take (i := 29) (oi := ⟨some 165, _, _, _, _, _⟩) (v := ?_) rfl (by kernel_rfl) (by kernel_rfl) (by kernel_rfl) (fun _ _ _ h => h) (Or.inl ⟨by rfl, ?_⟩) (by assumption) ?_
    rotate_left
    · intro w hSw; (try dsimp only at hSw); go_simp; try with_reducible rfl
    simp only [Act.put, List.setIfInBounds_toArray, List.set_cons_zero, List.set_cons_succ]
    refine wpAnyH_take (i := 30) (oi := ⟨some 166, _, _, _, _, _⟩) (v := ?_) rfl (by kernel_rfl) (by kernel_rfl) (by kernel_rfl) (fun _ _ _ h => h) (Or.inl ⟨by rfl, ?_⟩) (by assumption) ?_
    rotate_left
    · intro w hSw; (try dsimp only at hSw); go_simp; try with_reducible rfl
    simp only [Act.put, List.setIfInBounds_toArray, List.set_cons_zero, List.set_cons_succ]
    refine wpAnyH_take (i := 31) (oi := ⟨some 167, _, _, _, _, _⟩) (v := ?_) rfl (by kernel_rfl) (by kernel_rfl) (by kernel_rfl) (fun _ _ _ h => h) (Or.inl ⟨by rfl, ?_⟩) (by assumption) ?_
    rotate_left
    · intro w hSw; (try dsimp only at hSw); go_simp; try with_reducible rfl
    simp only [Act.put, List.setIfInBounds_toArray, List.set_cons_zero, List.set_cons_succ]
    refine wpAnyH_take (i := 32) (oi := ⟨some 168, _, _, _, _, _⟩) (v := ?_) rfl (by kernel_rfl) (by kernel_rfl) (by kernel_rfl) (fun _ _ _ h => h) (Or.inl ⟨by rfl, ?_⟩) (by assumption) ?_
    rotate_left
    · intro w hSw; (try dsimp only at hSw); go_simp; try with_reducible rfl
    simp only [Act.put, List.setIfInBounds_toArray, List.set_cons_zero, List.set_cons_succ]
    refine wpAnyH_take (i := 33) (oi := ⟨some 169, _, _, _, _, _⟩) (v := ?_) rfl (by kernel_rfl) (by kernel_rfl) (by kernel_rfl) (fun _ _ _ h => h) (Or.inl ⟨by rfl, ?_⟩) (by assumption) ?_
    rotate_left
    · intro w hSw; (try dsimp only at hSw); go_simp; try with_reducible rfl
    simp only [Act.put, List.setIfInBounds_toArray, List.set_cons_zero, List.set_cons_succ]
    refine wpAnyH_take (i := 34) (oi := ⟨some 170, _, _, _, _, _⟩) (v := ?_) rfl (by kernel_rfl) (by kernel_rfl) (by kernel_rfl) (fun _ _ _ h => h) (Or.inl ⟨by rfl, ?_⟩) (by assumption) ?_
    rotate_left
    · intro w hSw; (try dsimp only at hSw); go_simp; try with_reducible rfl
    simp only [Act.put, List.setIfInBounds_toArray, List.set_cons_zero, List.set_cons_succ]
    refine wpAnyH_take (i := 35) (oi := ⟨some 171, _, _, _, _, _⟩) (v := ?_) rfl (by kernel_rfl) (by kernel_rfl) (by kernel_rfl) (fun _ _ _ h => h) (Or.inl ⟨by rfl, ?_⟩) (by assumption) ?_
    rotate_left
    · intro w hSw; (try dsimp only at hSw); go_simp; try with_reducible rfl
    simp only [Act.put, List.setIfInBounds_toArray, List.set_cons_zero, List.set_cons_succ]
    refine wpAnyH_take (i := 36) (oi := ⟨some 172, _, _, _, _, _⟩) (v := ?_) rfl (by kernel_rfl) (by kernel_rfl) (by kernel_rfl) (fun _ _ _ h => h) (Or.inl ⟨by rfl, ?_⟩) (by assumption) ?_
    rotate_left
    · intro w hSw; (try dsimp only at hSw); go_simp; try with_reducible rfl
    simp only [Act.put, List.setIfInBounds_toArray, List.set_cons_zero, List.set_cons_succ]
    refine wpAnyH_take (i := 37) (oi := ⟨some 173, _, _, _, _, _⟩) (v := ?_) rfl (by kernel_rfl) (by kernel_rfl) (by kernel_rfl) (fun _ _ _ h => h) (Or.inl ⟨by rfl, ?_⟩) (by assumption) ?_
    rotate_left
    · intro w hSw; (try dsimp only at hSw); go_simp; try with_reducible rfl
    simp only [Act.put, List.setIfInBounds_toArray, List.set_cons_zero, List.set_cons_succ]
    refine wpAnyH_take (i := 38) (oi := ⟨some 174, _, _, _, _, _⟩) (v := ?_) rfl (by kernel_rfl) (by kernel_rfl) (by kernel_rfl) (fun _ _ _ h => h) (Or.inl ⟨by rfl, ?_⟩) (by assumption) ?_
    rotate_left
    · intro w hSw; (try dsimp only at hSw); go_simp; try with_reducible rfl
    simp only [Act.put, List.setIfInBounds_toArray, List.set_cons_zero, List.set_cons_succ]
    refine wpAnyH_take (i := 39) (oi := ⟨some 175, _, _, _, _, _⟩) (v := ?_) rfl (by kernel_rfl) (by kernel_rfl) (by kernel_rfl) (fun _ _ _ h => h) (Or.inl ⟨by rfl, ?_⟩) (by assumption) ?_
    rotate_left
    · intro w hSw; (try dsimp only at hSw); go_simp; try with_reducible rfl
    simp only [Act.put, List.setIfInBounds_toArray, List.set_cons_zero, List.set_cons_succ]
    refine wpAnyH_take (i := 40) (oi := ⟨some 176, _, _, _, _, _⟩) (v := ?_) rfl (by kernel_rfl) (by kernel_rfl) (by kernel_rfl) (fun _ _ _ h => h) (Or.inl ⟨by rfl, ?_⟩) (by assumption) ?_
    rotate_left
    · intro w hSw; (try dsimp only at hSw); go_simp; try with_reducible rfl
    simp only [Act.put, List.setIfInBounds_toArray, List.set_cons_zero, List.set_cons_succ]
    refine wpAnyH_ready (rs := [41]) (by kernel_rfl) (by simp) ?_
    refine AllReadyH.cons (o := ⟨some 177, _, _, _, _, _⟩) rfl (fun K hK => ?_) AllReadyH.nil
    go_simp
    (with_reducible refine (less_n (.slice aa ak ac) (.slice ba bk bc) X Y 18 18 _ (Held.big (KH.out _ hHeld) (.slice aa ak ac) (X) 18 (List.Mem.tail _ (List.Mem.tail _ (List.Mem.tail _ (List.Mem.tail _ (List.Mem.tail _ (List.Mem.tail _ (List.Mem.tail _ (List.Mem.tail _ (List.Mem.tail _ (List.Mem.tail _ (List.Mem.tail _ (List.Mem.tail _ (List.Mem.tail _ (List.Mem.tail _ (List.Mem.tail _ (List.Mem.tail _ (List.Mem.tail _ (List.Mem.tail _ (List.Mem.tail _ (List.Mem.head _))))))))))))))))))))) (Held.big (KH.out _ hHeld) (.slice ba bk bc) (Y) 18 (List.Mem.tail _ (List.Mem.tail _ (List.Mem.tail _ (List.Mem.tail _ (List.Mem.tail _ (List.Mem.tail _ (List.Mem.tail _ (List.Mem.tail _ (List.Mem.tail _ (List.Mem.tail _ (List.Mem.tail _ (List.Mem.tail _ (List.Mem.tail _ (List.Mem.tail _ (List.Mem.tail _ (List.Mem.tail _ (List.Mem.tail _ (List.Mem.head _))))))))))))))))))) (by omega) HLE.out).mono ?_)
    rw [HD.out]
    rintro e w' ⟨la, lk, lc, rfl, NL, -, hb⟩
    go_wp2_with fail
    refine hK.out _ _ ?_ (fun hNew => ?_)
    · exact KS.out _ (Held.below (KH.out _ hHeld) hb)
    clear hK K hHeld
    clear hb
    have hHeld := hNew
    clear hNew
    try simp only [Act.put, List.setIfInBounds_toArray, List.set_cons_zero, List.set_cons_succ]
    refine wpAnyH_ready (rs := [42]) (by kernel_rfl) (by simp) ?_
    refine AllReadyH.cons (o := ⟨some 178, _, _, _, _, _⟩) rfl (fun K hK => ?_) AllReadyH.nil
    go_simp
    (with_reducible refine (is_true dh dl la lk lc D 18 _ (by omega) (by omega) (by omega) (by omega) NL (by omega) ED.out).mono ?_)
    rintro e w' ⟨rfl, hb⟩
    go_wp2_with fail
    refine hK.out _ _ ?_ (fun hNew => ?_)
    · exact KS.out _ (Held.below (KH.out _ hHeld) hb)
    clear hK K hHeld
    clear hb
    have hHeld := hNew
    clear hNew
    try simp only [Act.put, List.setIfInBounds_toArray, List.set_cons_zero, List.set_cons_succ]
    refine wpAnyH_take (i := 43) (oi := ⟨some 179, _, _, _, _, _⟩) (v := ?_) rfl (by kernel_rfl) (by kernel_rfl) (by kernel_rfl) (fun _ _ _ h => h) (Or.inl ⟨by rfl, ?_⟩) (by assumption) ?_
    rotate_left
    · intro w hSw; (try dsimp only at hSw); go_simp; try with_reducible rfl
    simp only [Act.put, List.setIfInBounds_toArray, List.set_cons_zero, List.set_cons_succ]
    refine wpAnyH_take (i := 44) (oi := ⟨some 180, _, _, _, _, _⟩) (v := ?_) rfl (by kernel_rfl) (by kernel_rfl) (by kernel_rfl) (fun _ _ _ h => h) (Or.inl ⟨by rfl, ?_⟩) (by assumption) ?_
    rotate_left
    · intro w hSw; (try dsimp only at hSw); go_simp; try with_reducible rfl
    simp only [Act.put, List.setIfInBounds_toArray, List.set_cons_zero, List.set_cons_succ]
    refine wpAnyH_take (i := 45) (oi := ⟨some 181, _, _, _, _, _⟩) (v := undef) rfl (by kernel_rfl) (by kernel_rfl) (by kernel_rfl) (fun _ _ _ h => h) (Or.inr ⟨by rfl, rfl⟩) (by assumption) ?_
    simp only [Act.put, List.setIfInBounds_toArray, List.set_cons_zero, List.set_cons_succ]
    refine wpAnyH_take (i := 46) (oi := ⟨some 182, _, _, _, _, _⟩) (v := undef) rfl (by kernel_rfl) (by kernel_rfl) (by kernel_rfl) (fun _ _ _ h => h) (Or.inr ⟨by rfl, rfl⟩) (by assumption) ?_
    simp only [Act.put, List.setIfInBounds_toArray, List.set_cons_zero, List.set_cons_succ]
    refine wpAnyH_take (i := 47) (oi := ⟨some 183, _, _, _, _, _⟩) (v := undef) rfl (by kernel_rfl) (by kernel_rfl) (by kernel_rfl) (fun _ _ _ h => h) (Or.inr ⟨by rfl, rfl⟩) (by assumption) ?_
    simp only [Act.put, List.setIfInBounds_toArray, List.set_cons_zero, List.set_cons_succ]
    refine wpAnyH_take (i := 48) (oi := ⟨some 184, _, _, _, _, _⟩) (v := undef) rfl (by kernel_rfl) (by kernel_rfl) (by kernel_rfl) (fun _ _ _ h => h) (Or.inr ⟨by rfl, rfl⟩) (by assumption) ?_
    simp only [Act.put, List.setIfInBounds_toArray, List.set_cons_zero, List.set_cons_succ]
    refine wpAnyH_take (i := 49) (oi := ⟨some 185, _, _, _, _, _⟩) (v := undef) rfl (by kernel_rfl) (by kernel_rfl) (by kernel_rfl) (fun _ _ _ h => h) (Or.inr ⟨by rfl, rfl⟩) (by assumption) ?_
    simp only [Act.put, List.setIfInBounds_toArray, List.set_cons_zero, List.set_cons_succ]
    refine wpAnyH_take (i := 50) (oi := ⟨some 186, _, _, _, _, _⟩) (v := undef) rfl (by kernel_rfl) (by kernel_rfl) (by kernel_rfl) (fun _ _ _ h => h) (Or.inr ⟨by rfl, rfl⟩) (by assumption) ?_
    simp only [Act.put, List.setIfInBounds_toArray, List.set_cons_zero, List.set_cons_succ]
    refine wpAnyH_take (i := 51) (oi := ⟨some 187, _, _, _, _, _⟩) (v := undef) rfl (by kernel_rfl) (by kernel_rfl) (by kernel_rfl) (fun _ _ _ h => h) (Or.inr ⟨by rfl, rfl⟩) (by assumption) ?_
    simp only [Act.put, List.setIfInBounds_toArray, List.set_cons_zero, List.set_cons_succ]
    refine wpAnyH_take (i := 52) (oi := ⟨some 188, _, _, _, _, _⟩) (v := ?_) rfl (by kernel_rfl) (by kernel_rfl) (by kernel_rfl) (fun _ _ _ h => h) (Or.inl ⟨by rfl, ?_⟩) (by assumption) ?_
    rotate_left
    · intro w hSw; (try dsimp only at hSw); go_simp; try with_reducible rfl
    simp only [Act.put, List.setIfInBounds_toArray, List.set_cons_zero, List.set_cons_succ]
    refine wpAnyH_take (i := 53) (oi := ⟨some 189, _, _, _, _, _⟩) (v := ?_) rfl (by kernel_rfl) (by kernel_rfl) (by kernel_rfl) (fun _ _ _ h => h) (Or.inl ⟨by rfl, ?_⟩) (by assumption) ?_
    rotate_left
    · intro w hSw; (try dsimp only at hSw); go_simp; try with_reducible rfl
    simp only [Act.put, List.setIfInBounds_toArray, List.set_cons_zero, List.set_cons_succ]
    refine wpAnyH_take (i := 54) (oi := ⟨some 6, _, _, _, _, _⟩) (v := ?_) rfl (by kernel_rfl) (by kernel_rfl) (by kernel_rfl) (fun _ _ _ h => h) (Or.inl ⟨by rfl, ?_⟩) (by assumption) ?_
    rotate_left
    · intro w hSw; (try dsimp only at hSw); go_simp; try with_reducible rfl
    simp only [Act.put, List.setIfInBounds_toArray, List.set_cons_zero, List.set_cons_succ]
    refine wpAnyH_done (by kernel_rfl) ?_ _
    have H := KH.out _ hHeld
    clear KS KH hHeld
    go_wp2
    go_ret
    exact ⟨rfl, H.old⟩
  · have ET := Lib.hid hT; clear hT
    clear hbS; subst hbs
    go_wp2_with fail
    replace H := (H.box2 (.int .u64 0) (.int .u64 0) 24)
    have KS : Hid (∀ w' : World, Held w [.cell (wz.heap.size) 0 (.int .u64 0), .cell (wz.heap.size) 1 (.int .u64 0), .cell (w10.heap.size) 0 (.slice qa qk qc), .num (.slice qa qk qc) (Q) 19, .cell (w9.heap.size) 0 (.slice pa pk pc), .num (.slice pa pk pc) (P) 24, .cell (w8.heap.size) 0 (.int .u64 0), .cell (w8.heap.size) 1 (.int .u64 0), .cell (w7.heap.size) 0 (.int .u64 0), .cell (w7.heap.size) 1 (.int .u64 0), .cell (w6.heap.size) 0 (.int .u64 th), .cell (w6.heap.size) 1 (.int .u64 tl), .cell (w5.heap.size) 0 (.slice ma mk mc), .num (.slice ma mk mc) (T) 23, .cell (w4.heap.size) 0 (.slice ca ck cc), .num (.slice ca ck cc) (n) 5, .cell (w3.heap.size) 0 (.slice ba bk bc), .num (.slice ba bk bc) (Y) 18, .cell (w2.heap.size) 0 (.slice aa ak ac), .num (.slice aa ak ac) (X) 18, .cell (w.heap.size + 1) 0 (.int .u64 yh), .cell (w.heap.size + 1) 1 (.int .u64 yl), .cell (w.heap.size) 0 (.int .u64 xh), .cell (w.heap.size) 1 (.int .u64 xl)] w' → w'.cell? ⟨w6.heap.size, 0, none⟩ = some (.int .u64 th) ∧ w'.cell? ⟨w6.heap.size, 1, none⟩ = some (.int .u64 tl) ∧ w'.cell? ⟨w9.heap.size, 0, none⟩ = some (.slice pa pk pc) ∧ w'.cell? ⟨w7.heap.size, 0, none⟩ = some (.int .u64 0) ∧ w'.cell? ⟨w7.heap.size, 1, none⟩ = some (.int .u64 0) ∧ w'.cell? ⟨w10.heap.size, 0, none⟩ = some (.slice qa qk qc) ∧ w'.cell? ⟨w8.heap.size, 0, none⟩ = some (.int .u64 0) ∧ w'.cell? ⟨w8.heap.size, 1, none⟩ = some (.int .u64 0) ∧ w'.cell? ⟨w2.heap.size, 0, none⟩ = some (.slice aa ak ac) ∧ w'.cell? ⟨w3.heap.size, 0, none⟩ = some (.slice ba bk bc) ∧ w'.cell? ⟨wz.heap.size, 0, none⟩ = some (.int .u64 0) ∧ w'.cell? ⟨wz.heap.size, 1, none⟩ = some (.int .u64 0) ∧ Held w [.cell (wz.heap.size) 0 (.int .u64 0), .cell (wz.heap.size) 1 (.int .u64 0), .cell (w10.heap.size) 0 (.slice qa qk qc), .num (.slice qa qk qc) (Q) 19, .cell (w9.heap.size) 0 (.slice pa pk pc), .num (.slice pa pk pc) (P) 24, .cell (w8.heap.size) 0 (.int .u64 0), .cell (w8.heap.size) 1 (.int .u64 0), .cell (w7.heap.size) 0 (.int .u64 0), .cell (w7.heap.size) 1 (.int .u64 0), .cell (w6.heap.size) 0 (.int .u64 th), .cell (w6.heap.size) 1 (.int .u64 tl), .cell (w5.heap.size) 0 (.slice ma mk mc), .num (.slice ma mk mc) (T) 23, .cell (w4.heap.size) 0 (.slice ca ck cc), .num (.slice ca ck cc) (n) 5, .cell (w3.heap.size) 0 (.slice ba bk bc), .num (.slice ba bk bc) (Y) 18, .cell (w2.heap.size) 0 (.slice aa ak ac), .num (.slice aa ak ac) (X) 18, .cell (w.heap.size + 1) 0 (.int .u64 yh), .cell (w.heap.size + 1) 1 (.int .u64 yl), .cell (w.heap.size) 0 (.int .u64 xh), .cell (w.heap.size) 1 (.int .u64 xl)] w') := Lib.hid (fun _ h => ⟨h.cell (w6.heap.size) 0 (.int .u64 th) (List.Mem.tail _ (List.Mem.tail _ (List.Mem.tail _ (List.Mem.tail _ (List.Mem.tail _ (List.Mem.tail _ (List.Mem.tail _ (List.Mem.tail _ (List.Mem.tail _ (List.Mem.tail _ (List.Mem.head _))))))))))), h.cell (w6.heap.size) 1 (.int .u64 tl) (List.Mem.tail _ (List.Mem.tail _ (List.Mem.tail _ (List.Mem.tail _ (List.Mem.tail _ (List.Mem.tail _ (List.Mem.tail _ (List.Mem.tail _ (List.Mem.tail _ (List.Mem.tail _ (List.Mem.tail _ (List.Mem.head _)))))))))))), h.cell (w9.heap.size) 0 (.slice pa pk pc) (List.Mem.tail _ (List.Mem.tail _ (List.Mem.tail _ (List.Mem.tail _ (List.Mem.head _))))), h.cell (w7.heap.size) 0 (.int .u64 0) (List.Mem.tail _ (List.Mem.tail _ (List.Mem.tail _ (List.Mem.tail _ (List.Mem.tail _ (List.Mem.tail _ (List.Mem.tail _ (List.Mem.tail _ (List.Mem.head _))))))))), h.cell (w7.heap.size) 1 (.int .u64 0) (List.Mem.tail _ (List.Mem.tail _ (List.Mem.tail _ (List.Mem.tail _ (List.Mem.tail _ (List.Mem.tail _ (List.Mem.tail _ (List.Mem.tail _ (List.Mem.tail _ (List.Mem.head _)))))))))), h.cell (w10.heap.size) 0 (.slice qa qk qc) (List.Mem.tail _ (List.Mem.tail _ (List.Mem.head _))), h.cell (w8.heap.size) 0 (.int .u64 0) (List.Mem.tail _ (List.Mem.tail _ (List.Mem.tail _ (List.Mem.tail _ (List.Mem.tail _ (List.Mem.tail _ (List.Mem.head _))))))), h.cell (w8.heap.size) 1 (.int .u64 0) (List.Mem.tail _ (List.Mem.tail _ (List.Mem.tail _ (List.Mem.tail _ (List.Mem.tail _ (List.Mem.tail _ (List.Mem.tail _ (List.Mem.head _)))))))), h.cell (w2.heap.size) 0 (.slice aa ak ac) (List.Mem.tail _ (List.Mem.tail _ (List.Mem.tail _ (List.Mem.tail _ (List.Mem.tail _ (List.Mem.tail _ (List.Mem.tail _ (List.Mem.tail _ (List.Mem.tail _ (List.Mem.tail _ (List.Mem.tail _ (List.Mem.tail _ (List.Mem.tail _ (List.Mem.tail _ (List.Mem.tail _ (List.Mem.tail _ (List.Mem.tail _ (List.Mem.tail _ (List.Mem.head _))))))))))))))))))), h.cell (w3.heap.size) 0 (.slice ba bk bc) (List.Mem.tail _ (List.Mem.tail _ (List.Mem.tail _ (List.Mem.tail _ (List.Mem.tail _ (List.Mem.tail _ (List.Mem.tail _ (List.Mem.tail _ (List.Mem.tail _ (List.Mem.tail _ (List.Mem.tail _ (List.Mem.tail _ (List.Mem.tail _ (List.Mem.tail _ (List.Mem.tail _ (List.Mem.tail _ (List.Mem.head _))))))))))))))))), h.cell (wz.heap.size) 0 (.int .u64 0) (List.Mem.head _), h.cell (wz.heap.size) 1 (.int .u64 0) (List.Mem.tail _ (List.Mem.head _)), h⟩)
    have KH : Hid (∀ w' : World, w'.cell? ⟨w6.heap.size, 0, none⟩ = some (.int .u64 th) ∧ w'.cell? ⟨w6.heap.size, 1, none⟩ = some (.int .u64 tl) ∧ w'.cell? ⟨w9.heap.size, 0, none⟩ = some (.slice pa pk pc) ∧ w'.cell? ⟨w7.heap.size, 0, none⟩ = some (.int .u64 0) ∧ w'.cell? ⟨w7.heap.size, 1, none⟩ = some (.int .u64 0) ∧ w'.cell? ⟨w10.heap.size, 0, none⟩ = some (.slice qa qk qc) ∧ w'.cell? ⟨w8.heap.size, 0, none⟩ = some (.int .u64 0) ∧ w'.cell? ⟨w8.heap.size, 1, none⟩ = some (.int .u64 0) ∧ w'.cell? ⟨w2.heap.size, 0, none⟩ = some (.slice aa ak ac) ∧ w'.cell? ⟨w3.heap.size, 0, none⟩ = some (.slice ba bk bc) ∧ w'.cell? ⟨wz.heap.size, 0, none⟩ = some (.int .u64 0) ∧ w'.cell? ⟨wz.heap.size, 1, none⟩ = some (.int .u64 0) ∧ Held w [.cell (wz.heap.size) 0 (.int .u64 0), .cell (wz.heap.size) 1 (.int .u64 0), .cell (w10.heap.size) 0 (.slice qa qk qc), .num (.slice qa qk qc) (Q) 19, .cell (w9.heap.size) 0 (.slice pa pk pc), .num (.slice pa pk pc) (P) 24, .cell (w8.heap.size) 0 (.int .u64 0), .cell (w8.heap.size) 1 (.int .u64 0), .cell (w7.heap.size) 0 (.int .u64 0), .cell (w7.heap.size) 1 (.int .u64 0), .cell (w6.heap.size) 0 (.int .u64 th), .cell (w6.heap.size) 1 (.int .u64 tl), .cell (w5.heap.size) 0 (.slice ma mk mc), .num (.slice ma mk mc) (T) 23, .cell (w4.heap.size) 0 (.slice ca ck cc), .num (.slice ca ck cc) (n) 5, .cell (w3.heap.size) 0 (.slice ba bk bc), .num (.slice ba bk bc) (Y) 18, .cell (w2.heap.size) 0 (.slice aa ak ac), .num (.slice aa ak ac) (X) 18, .cell (w.heap.size + 1) 0 (.int .u64 yh), .cell (w.heap.size + 1) 1 (.int .u64 yl), .cell (w.heap.size) 0 (.int .u64 xh), .cell (w.heap.size) 1 (.int .u64 xl)] w' → Held w [.cell (wz.heap.size) 0 (.int .u64 0), .cell (wz.heap.size) 1 (.int .u64 0), .cell (w10.heap.size) 0 (.slice qa qk qc), .num (.slice qa qk qc) (Q) 19, .cell (w9.heap.size) 0 (.slice pa pk pc), .num (.slice pa pk pc) (P) 24, .cell (w8.heap.size) 0 (.int .u64 0), .cell (w8.heap.size) 1 (.int .u64 0), .cell (w7.heap.size) 0 (.int .u64 0), .cell (w7.heap.size) 1 (.int .u64 0), .cell (w6.heap.size) 0 (.int .u64 th), .cell (w6.heap.size) 1 (.int .u64 tl), .cell (w5.heap.size) 0 (.slice ma mk mc), .num (.slice ma mk mc) (T) 23, .cell (w4.heap.size) 0 (.slice ca ck cc), .num (.slice ca ck cc) (n) 5, .cell (w3.heap.size) 0 (.slice ba bk bc), .num (.slice ba bk bc) (Y) 18, .cell (w2.heap.size) 0 (.slice aa ak ac), .num (.slice aa ak ac) (X) 18, .cell (w.heap.size + 1) 0 (.int .u64 yh), .cell (w.heap.size + 1) 1 (.int .u64 yl), .cell (w.heap.size) 0 (.int .u64 xh), .cell (w.heap.size) 1 (.int .u64 xl)] w') := Lib.hid (fun _ h => h.2.2.2.2.2.2.2.2.2.2.2.2)
    refine wp_region_held_drew (S := fun w' => w'.cell? ⟨w6.heap.size, 0, none⟩ = some (.int .u64 th) ∧ w'.cell? ⟨w6.heap.size, 1, none⟩ = some (.int .u64 tl) ∧ w'.cell? ⟨w9.heap.size, 0, none⟩ = some (.slice pa pk pc) ∧ w'.cell? ⟨w7.heap.size, 0, none⟩ = some (.int .u64 0) ∧ w'.cell? ⟨w7.heap.size, 1, none⟩ = some (.int .u64 0) ∧ w'.cell? ⟨w10.heap.size, 0, none⟩ = some (.slice qa qk qc) ∧ w'.cell? ⟨w8.heap.size, 0, none⟩ = some (.int .u64 0) ∧ w'.cell? ⟨w8.heap.size, 1, none⟩ = some (.int .u64 0) ∧ w'.cell? ⟨w2.heap.size, 0, none⟩ = some (.slice aa ak ac) ∧ w'.cell? ⟨w3.heap.size, 0, none⟩ = some (.slice ba bk bc) ∧ w'.cell? ⟨wz.heap.size, 0, none⟩ = some (.int .u64 0) ∧ w'.cell? ⟨wz.heap.size, 1, none⟩ = some (.int .u64 0) ∧ Held w [.cell (wz.heap.size) 0 (.int .u64 0), .cell (wz.heap.size) 1 (.int .u64 0), .cell (w10.heap.size) 0 (.slice qa qk qc), .num (.slice qa qk qc) (Q) 19, .cell (w9.heap.size) 0 (.slice pa pk pc), .num (.slice pa pk pc) (P) 24, .cell (w8.heap.size) 0 (.int .u64 0), .cell (w8.heap.size) 1 (.int .u64 0), .cell (w7.heap.size) 0 (.int .u64 0), .cell (w7.heap.size) 1 (.int .u64 0), .cell (w6.heap.size) 0 (.int .u64 th), .cell (w6.heap.size) 1 (.int .u64 tl), .cell (w5.heap.size) 0 (.slice ma mk mc), .num (.slice ma mk mc) (T) 23, .cell (w4.heap.size) 0 (.slice ca ck cc), .num (.slice ca ck cc) (n) 5, .cell (w3.heap.size) 0 (.slice ba bk bc), .num (.slice ba bk bc) (Y) 18, .cell (w2.heap.size) 0 (.slice aa ak ac), .num (.slice aa ak ac) (X) 18, .cell (w.heap.size + 1) 0 (.int .u64 yh), .cell (w.heap.size + 1) 1 (.int .u64 yl), .cell (w.heap.size) 0 (.int .u64 xh), .cell (w.heap.size) 1 (.int .u64 xl)] w') (by kernel_rfl) (KS.out _ H.drew) (fun hHeld => ?_)
    clear H
    refine wpAnyH_take (i := 0) (oi := ⟨some 136, _, _, _, _, _⟩) (v := ?_) rfl (by kernel_rfl) (by kernel_rfl) (by kernel_rfl) (fun _ _ _ h => h) (Or.inl ⟨by rfl, ?_⟩) (by assumption) ?_
    rotate_left
    · intro w hSw; (try dsimp only at hSw); go_simp; try with_reducible rfl
    simp only [Act.put, List.setIfInBounds_toArray, List.set_cons_zero, List.set_cons_succ]
    refine wpAnyH_take (i := 1) (oi := ⟨some 137, _, _, _, _, _⟩) (v := ?_) rfl (by kernel_rfl) (by kernel_rfl) (by kernel_rfl) (fun _ _ _ h => h) (Or.inl ⟨by rfl, ?_⟩) (by assumption) ?_
    rotate_left
    · intro w hSw; (try dsimp only at hSw); go_simp; try with_reducible rfl
    simp only [Act.put, List.setIfInBounds_toArray, List.set_cons_zero, List.set_cons_succ]
    refine wpAnyH_take (i := 2) (oi := ⟨some 138, _, _, _, _, _⟩) (v := ?_) rfl (by kernel_rfl) (by kernel_rfl) (by kernel_rfl) (fun _ _ _ h => h) (Or.inl ⟨by rfl, ?_⟩) (by assumption) ?_
    rotate_left
    · intro w hSw; (try dsimp only at hSw); go_simp; try with_reducible rfl
    simp only [Act.put, List.setIfInBounds_toArray, List.set_cons_zero, List.set_cons_succ]
    refine wpAnyH_take (i := 3) (oi := ⟨some 139, _, _, _, _, _⟩) (v := ?_) rfl (by kernel_rfl) (by kernel_rfl) (by kernel_rfl) (fun _ _ _ h => h) (Or.inl ⟨by rfl, ?_⟩) (by assumption) ?_
    rotate_left
    · intro w hSw; (try dsimp only at hSw); go_simp; try with_reducible rfl
    simp only [Act.put, List.setIfInBounds_toArray, List.set_cons_zero, List.set_cons_succ]
    refine wpAnyH_take (i := 4) (oi := ⟨some 140, _, _, _, _, _⟩) (v := ?_) rfl (by kernel_rfl) (by kernel_rfl) (by kernel_rfl) (fun _ _ _ h => h) (Or.inl ⟨by rfl, ?_⟩) (by assumption) ?_
    rotate_left
    · intro w hSw; (try dsimp only at hSw); go_simp; try with_reducible rfl
    simp only [Act.put, List.setIfInBounds_toArray, List.set_cons_zero, List.set_cons_succ]
    refine wpAnyH_take (i := 5) (oi := ⟨some 141, _, _, _, _, _⟩) (v := ?_) rfl (by kernel_rfl) (by kernel_rfl) (by kernel_rfl) (fun _ _ _ h => h) (Or.inl ⟨by rfl, ?_⟩) (by assumption) ?_
    rotate_left
    · intro w hSw; (try dsimp only at hSw); go_simp; try with_reducible rfl
    simp only [Act.put, List.setIfInBounds_toArray, List.set_cons_zero, List.set_cons_succ]
    refine wpAnyH_ready (rs := [6]) (by kernel_rfl) (by simp) ?_
    refine AllReadyH.cons (o := ⟨some 142, _, _, _, _, _⟩) rfl (fun K hK => ?_) AllReadyH.nil
    go_simp
    (with_reducible refine (is_true th tl pa pk pc P 24 _ (by omega) (by omega) (by omega) (by omega) (Held.big (KH.out _ hHeld) (.slice pa pk pc) (P) 24 (List.Mem.tail _ (List.Mem.tail _ (List.Mem.tail _ (List.Mem.tail _ (List.Mem.tail _ (List.Mem.head _))))))) (by omega) ET.out).mono ?_)
    rintro e w' ⟨rfl, hb⟩
    go_wp2_with fail
    refine hK.out _ _ ?_ (fun hNew => ?_)
    · exact KS.out _ (Held.below (KH.out _ hHeld) hb)
    clear hK K hHeld
    clear hb
    have hHeld := hNew
    clear hNew
    try simp only [Act.put, List.setIfInBounds_toArray, List.set_cons_zero, List.set_cons_succ]
    refine wpAnyH_take (i := 7) (oi := ⟨some 143, _, _, _, _, _⟩) (v := ?_) rfl (by kernel_rfl) (by kernel_rfl) (by kernel_rfl) (fun _ _ _ h => h) (Or.inl ⟨by rfl, ?_⟩) (by assumption) ?_
    rotate_left
    · intro w hSw; (try dsimp only at hSw); go_simp; try with_reducible rfl
    simp only [Act.put, List.setIfInBounds_toArray, List.set_cons_zero, List.set_cons_succ]
    refine wpAnyH_take (i := 8) (oi := ⟨some 144, _, _, _, _, _⟩) (v := ?_) rfl (by kernel_rfl) (by kernel_rfl) (by kernel_rfl) (fun _ _ _ h => h) (Or.inl ⟨by rfl, ?_⟩) (by assumption) ?_
    rotate_left
    · intro w hSw; (try dsimp only at hSw); go_simp; try with_reducible rfl
    simp only [Act.put, List.setIfInBounds_toArray, List.set_cons_zero, List.set_cons_succ]
    refine wpAnyH_take (i := 9) (oi := ⟨some 145, _, _, _, _, _⟩) (v := undef) rfl (by kernel_rfl) (by kernel_rfl) (by kernel_rfl) (fun _ _ _ h => h) (Or.inr ⟨by rfl, rfl⟩) (by assumption) ?_
    simp only [Act.put, List.setIfInBounds_toArray, List.set_cons_zero, List.set_cons_succ]
    refine wpAnyH_take (i := 10) (oi := ⟨some 146, _, _, _, _, _⟩) (v := undef) rfl (by kernel_rfl) (by kernel_rfl) (by kernel_rfl) (fun _ _ _ h => h) (Or.inr ⟨by rfl, rfl⟩) (by assumption) ?_
    simp only [Act.put, List.setIfInBounds_toArray, List.set_cons_zero, List.set_cons_succ]
    refine wpAnyH_take (i := 11) (oi := ⟨some 147, _, _, _, _, _⟩) (v := undef) rfl (by kernel_rfl) (by kernel_rfl) (by kernel_rfl) (fun _ _ _ h => h) (Or.inr ⟨by rfl, rfl⟩) (by assumption) ?_
    simp only [Act.put, List.setIfInBounds_toArray, List.set_cons_zero, List.set_cons_succ]
    refine wpAnyH_take (i := 12) (oi := ⟨some 148, _, _, _, _, _⟩) (v := undef) rfl (by kernel_rfl) (by kernel_rfl) (by kernel_rfl) (fun _ _ _ h => h) (Or.inr ⟨by rfl, rfl⟩) (by assumption) ?_
    simp only [Act.put, List.setIfInBounds_toArray, List.set_cons_zero, List.set_cons_succ]
    refine wpAnyH_take (i := 13) (oi := ⟨some 149, _, _, _, _, _⟩) (v := undef) rfl (by kernel_rfl) (by kernel_rfl) (by kernel_rfl) (fun _ _ _ h => h) (Or.inr ⟨by rfl, rfl⟩) (by assumption) ?_
    simp only [Act.put, List.setIfInBounds_toArray, List.set_cons_zero, List.set_cons_succ]
    refine wpAnyH_take (i := 14) (oi := ⟨some 150, _, _, _, _, _⟩) (v := undef) rfl (by kernel_rfl) (by kernel_rfl) (by kernel_rfl) (fun _ _ _ h => h) (Or.inr ⟨by rfl, rfl⟩) (by assumption) ?_
    simp only [Act.put, List.setIfInBounds_toArray, List.set_cons_zero, List.set_cons_succ]
    refine wpAnyH_take (i := 15) (oi := ⟨some 151, _, _, _, _, _⟩) (v := undef) rfl (by kernel_rfl) (by kernel_rfl) (by kernel_rfl) (fun _ _ _ h => h) (Or.inr ⟨by rfl, rfl⟩) (by assumption) ?_
    simp only [Act.put, List.setIfInBounds_toArray, List.set_cons_zero, List.set_cons_succ]
    refine wpAnyH_take (i := 16) (oi := ⟨some 152, _, _, _, _, _⟩) (v := ?_) rfl (by kernel_rfl) (by kernel_rfl) (by kernel_rfl) (fun _ _ _ h => h) (Or.inl ⟨by rfl, ?_⟩) (by assumption) ?_
    rotate_left
    · intro w hSw; (try dsimp only at hSw); go_simp; try with_reducible rfl
    simp only [Act.put, List.setIfInBounds_toArray, List.set_cons_zero, List.set_cons_succ]
    refine wpAnyH_take (i := 17) (oi := ⟨some 153, _, _, _, _, _⟩) (v := ?_) rfl (by kernel_rfl) (by kernel_rfl) (by kernel_rfl) (fun _ _ _ h => h) (Or.inl ⟨by rfl, ?_⟩) (by assumption) ?_
    rotate_left
    · intro w hSw; (try dsimp only at hSw); go_simp; try with_reducible rfl
    simp only [Act.put, List.setIfInBounds_toArray, List.set_cons_zero, List.set_cons_succ]
    refine wpAnyH_take (i := 18) (oi := ⟨some 154, _, _, _, _, _⟩) (v := ?_) rfl (by kernel_rfl) (by kernel_rfl) (by kernel_rfl) (fun _ _ _ h => h) (Or.inl ⟨by rfl, ?_⟩) (by assumption) ?_
    rotate_left
    · intro w hSw; (try dsimp only at hSw); go_simp; try with_reducible rfl
    simp only [Act.put, List.setIfInBounds_toArray, List.set_cons_zero, List.set_cons_succ]
    refine wpAnyH_take (i := 19) (oi := ⟨some 155, _, _, _, _, _⟩) (v := ?_) rfl (by kernel_rfl) (by kernel_rfl) (by kernel_rfl) (fun _ _ _ h => h) (Or.inl ⟨by rfl, ?_⟩) (by assumption) ?_
    rotate_left
    · intro w hSw; (try dsimp only at hSw); go_simp; try with_reducible rfl
    simp only [Act.put, List.setIfInBounds_toArray, List.set_cons_zero, List.set_cons_succ]
    refine wpAnyH_take (i := 20) (oi := ⟨some 156, _, _, _, _, _⟩) (v := ?_) rfl (by kernel_rfl) (by kernel_rfl) (by kernel_rfl) (fun _ _ _ h => h) (Or.inl ⟨by rfl, ?_⟩) (by assumption) ?_
    rotate_left
    · intro w hSw; (try dsimp only at hSw); go_simp; try with_reducible rfl
    simp only [Act.put, List.setIfInBounds_toArray, List.set_cons_zero, List.set_cons_succ]
    refine wpAnyH_take (i := 21) (oi := ⟨some 157, _, _, _, _, _⟩) (v := undef) rfl (by kernel_rfl) (by kernel_rfl) (by kernel_rfl) (fun _ _ _ h => h) (Or.inr ⟨by rfl, rfl⟩) (by assumption) ?_
    simp only [Act.put, List.setIfInBounds_toArray, List.set_cons_zero, List.set_cons_succ]
    refine wpAnyH_take (i := 22) (oi := ⟨some 158, _, _, _, _, _⟩) (v := undef) rfl (by kernel_rfl) (by kernel_rfl) (by kernel_rfl) (fun _ _ _ h => h) (Or.inr ⟨by rfl, rfl⟩) (by assumption) ?_
    simp only [Act.put, List.setIfInBounds_toArray, List.set_cons_zero, List.set_cons_succ]
    refine wpAnyH_take (i := 23) (oi := ⟨some 159, _, _, _, _, _⟩) (v := undef) rfl (by kernel_rfl) (by kernel_rfl) (by kernel_rfl) (fun _ _ _ h => h) (Or.inr ⟨by rfl, rfl⟩) (by assumption) ?_
    simp only [Act.put, List.setIfInBounds_toArray, List.set_cons_zero, List.set_cons_succ]
    refine wpAnyH_take (i := 24) (oi := ⟨some 160, _, _, _, _, _⟩) (v := ?_) rfl (by kernel_rfl) (by kernel_rfl) (by kernel_rfl) (fun _ _ _ h => h) (Or.inl ⟨by rfl, ?_⟩) (by assumption) ?_
    rotate_left
    · intro w hSw; (try dsimp only at hSw); go_simp; try with_reducible rfl
    simp only [Act.put, List.setIfInBounds_toArray, List.set_cons_zero, List.set_cons_succ]
    refine wpAnyH_take (i := 25) (oi := ⟨some 161, _, _, _, _, _⟩) (v := ?_) rfl (by kernel_rfl) (by kernel_rfl) (by kernel_rfl) (fun _ _ _ h => h) (Or.inl ⟨by rfl, ?_⟩) (by assumption) ?_
    rotate_left
    · intro w hSw; (try dsimp only at hSw); go_simp; try with_reducible rfl
    simp only [Act.put, List.setIfInBounds_toArray, List.set_cons_zero, List.set_cons_succ]
    refine wpAnyH_take (i := 26) (oi := ⟨some 162, _, _, _, _, _⟩) (v := ?_) rfl (by kernel_rfl) (by kernel_rfl) (by kernel_rfl) (fun _ _ _ h => h) (Or.inl ⟨by rfl, ?_⟩) (by assumption) ?_
    rotate_left
    · intro w hSw; (try dsimp only at hSw); go_simp; try with_reducible rfl
    simp only [Act.put, List.setIfInBounds_toArray, List.set_cons_zero, List.set_cons_succ]
    refine wpAnyH_take (i := 27) (oi := ⟨some 163, _, _, _, _, _⟩) (v := ?_) rfl (by kernel_rfl) (by kernel_rfl) (by kernel_rfl) (fun _ _ _ h => h) (Or.inl ⟨by rfl, ?_⟩) (by assumption) ?_
    rotate_left
    · intro w hSw; (try dsimp only at hSw); go_simp; try with_reducible rfl
    simp only [Act.put, List.setIfInBounds_toArray, List.set_cons_zero, List.set_cons_succ]
    refine wpAnyH_take (i := 28) (oi := ⟨some 164, _, _, _, _, _⟩) (v := ?_) rfl (by kernel_rfl) (by kernel_rfl) (by kernel_rfl) (fun _ _ _ h => h) (Or.inl ⟨by rfl, ?_⟩) (by assumption) ?_
    rotate_left
    · intro w hSw; (try dsimp only at hSw); go_simp; try with_reducible rfl
    simp only [Act.put, List.setIfInBounds_toArray, List.set_cons_zero, List.set_cons_succ]
    refine wpAnyH_take (i := 29) (oi := ⟨some 165, _, _, _, _, _⟩) (v := ?_) rfl (by kernel_rfl) (by kernel_rfl) (by kernel_rfl) (fun _ _ _ h => h) (Or.inl ⟨by rfl, ?_⟩) (by assumption) ?_
    rotate_left
    · intro w hSw; (try dsimp only at hSw); go_simp; try with_reducible rfl
    simp only [Act.put, List.setIfInBounds_toArray, List.set_cons_zero, List.set_cons_succ]
    refine wpAnyH_take (i := 30) (oi := ⟨some 166, _, _, _, _, _⟩) (v := ?_) rfl (by kernel_rfl) (by kernel_rfl) (by kernel_rfl) (fun _ _ _ h => h) (Or.inl ⟨by rfl, ?_⟩) (by assumption) ?_
    rotate_left
    · intro w hSw; (try dsimp only at hSw); go_simp; try with_reducible rfl
    simp only [Act.put, List.setIfInBounds_toArray, List.set_cons_zero, List.set_cons_succ]
    refine wpAnyH_take (i := 31) (oi := ⟨some 167, _, _, _, _, _⟩) (v := ?_) rfl (by kernel_rfl) (by kernel_rfl) (by kernel_rfl) (fun _ _ _ h => h) (Or.inl ⟨by rfl, ?_⟩) (by assumption) ?_
    rotate_left
    · intro w hSw; (try dsimp only at hSw); go_simp; try with_reducible rfl
    simp only [Act.put, List.setIfInBounds_toArray, List.set_cons_zero, List.set_cons_succ]
    refine wpAnyH_take (i := 32) (oi := ⟨some 168, _, _, _, _, _⟩) (v := ?_) rfl (by kernel_rfl) (by kernel_rfl) (by kernel_rfl) (fun _ _ _ h => h) (Or.inl ⟨by rfl, ?_⟩) (by assumption) ?_
    rotate_left
    · intro w hSw; (try dsimp only at hSw); go_simp; try with_reducible rfl
    simp only [Act.put, List.setIfInBounds_toArray, List.set_cons_zero, List.set_cons_succ]
    refine wpAnyH_take (i := 33) (oi := ⟨some 169, _, _, _, _, _⟩) (v := ?_) rfl (by kernel_rfl) (by kernel_rfl) (by kernel_rfl) (fun _ _ _ h => h) (Or.inl ⟨by rfl, ?_⟩) (by assumption) ?_
    rotate_left
    · intro w hSw; (try dsimp only at hSw); go_simp; try with_reducible rfl
    simp only [Act.put, List.setIfInBounds_toArray, List.set_cons_zero, List.set_cons_succ]
    refine wpAnyH_take (i := 34) (oi := ⟨some 170, _, _, _, _, _⟩) (v := ?_) rfl (by kernel_rfl) (by kernel_rfl) (by kernel_rfl) (fun _ _ _ h => h) (Or.inl ⟨by rfl, ?_⟩) (by assumption) ?_
    rotate_left
    · intro w hSw; (try dsimp only at hSw); go_simp; try with_reducible rfl
    simp only [Act.put, List.setIfInBounds_toArray, List.set_cons_zero, List.set_cons_succ]
    refine wpAnyH_take (i := 35) (oi := ⟨some 171, _, _, _, _, _⟩) (v := ?_) rfl (by kernel_rfl) (by kernel_rfl) (by kernel_rfl) (fun _ _ _ h => h) (Or.inl ⟨by rfl, ?_⟩) (by assumption) ?_
    rotate_left
    · intro w hSw; (try dsimp only at hSw); go_simp; try with_reducible rfl
    simp only [Act.put, List.setIfInBounds_toArray, List.set_cons_zero, List.set_cons_succ]
    refine wpAnyH_take (i := 36) (oi := ⟨some 172, _, _, _, _, _⟩) (v := ?_) rfl (by kernel_rfl) (by kernel_rfl) (by kernel_rfl) (fun _ _ _ h => h) (Or.inl ⟨by rfl, ?_⟩) (by assumption) ?_
    rotate_left
    · intro w hSw; (try dsimp only at hSw); go_simp; try with_reducible rfl
    simp only [Act.put, List.setIfInBounds_toArray, List.set_cons_zero, List.set_cons_succ]
    refine wpAnyH_take (i := 37) (oi := ⟨some 173, _, _, _, _, _⟩) (v := ?_) rfl (by kernel_rfl) (by kernel_rfl) (by kernel_rfl) (fun _ _ _ h => h) (Or.inl ⟨by rfl, ?_⟩) (by assumption) ?_
    rotate_left
    · intro w hSw; (try dsimp only at hSw); go_simp; try with_reducible rfl
    simp only [Act.put, List.setIfInBounds_toArray, List.set_cons_zero, List.set_cons_succ]
    refine wpAnyH_take (i := 38) (oi := ⟨some 174, _, _, _, _, _⟩) (v := undef) rfl (by kernel_rfl) (by kernel_rfl) (by kernel_rfl) (fun _ _ _ h => h) (Or.inr ⟨by rfl, rfl⟩) (by assumption) ?_
    simp only [Act.put, List.setIfInBounds_toArray, List.set_cons_zero, List.set_cons_succ]
    refine wpAnyH_take (i := 39) (oi := ⟨some 175, _, _, _, _, _⟩) (v := undef) rfl (by kernel_rfl) (by kernel_rfl) (by kernel_rfl) (fun _ _ _ h => h) (Or.inr ⟨by rfl, rfl⟩) (by assumption) ?_
    simp only [Act.put, List.setIfInBounds_toArray, List.set_cons_zero, List.set_cons_succ]
    refine wpAnyH_take (i := 40) (oi := ⟨some 176, _, _, _, _, _⟩) (v := undef) rfl (by kernel_rfl) (by kernel_rfl) (by kernel_rfl) (fun _ _ _ h => h) (Or.inr ⟨by rfl, rfl⟩) (by assumption) ?_
    simp only [Act.put, List.setIfInBounds_toArray, List.set_cons_zero, List.set_cons_succ]
    refine wpAnyH_take (i := 41) (oi := ⟨some 177, _, _, _, _, _⟩) (v := undef) rfl (by kernel_rfl) (by kernel_rfl) (by kernel_rfl) (fun _ _ _ h => h) (Or.inr ⟨by rfl, rfl⟩) (by assumption) ?_
    simp only [Act.put, List.setIfInBounds_toArray, List.set_cons_zero, List.set_cons_succ]
    refine wpAnyH_take (i := 42) (oi := ⟨some 178, _, _, _, _, _⟩) (v := undef) rfl (by kernel_rfl) (by kernel_rfl) (by kernel_rfl) (fun _ _ _ h => h) (Or.inr ⟨by rfl, rfl⟩) (by assumption) ?_
    simp only [Act.put, List.setIfInBounds_toArray, List.set_cons_zero, List.set_cons_succ]
    refine wpAnyH_take (i := 43) (oi := ⟨some 179, _, _, _, _, _⟩) (v := ?_) rfl (by kernel_rfl) (by kernel_rfl) (by kernel_rfl) (fun _ _ _ h => h) (Or.inl ⟨by rfl, ?_⟩) (by assumption) ?_
    rotate_left
    · intro w hSw; (try dsimp only at hSw); go_simp; try with_reducible rfl
    simp only [Act.put, List.setIfInBounds_toArray, List.set_cons_zero, List.set_cons_succ]
    refine wpAnyH_take (i := 44) (oi := ⟨some 180, _, _, _, _, _⟩) (v := ?_) rfl (by kernel_rfl) (by kernel_rfl) (by kernel_rfl) (fun _ _ _ h => h) (Or.inl ⟨by rfl, ?_⟩) (by assumption) ?_
    rotate_left
    · intro w hSw; (try dsimp only at hSw); go_simp; try with_reducible rfl
    simp only [Act.put, List.setIfInBounds_toArray, List.set_cons_zero, List.set_cons_succ]
    refine wpAnyH_take (i := 45) (oi := ⟨some 181, _, _, _, _, _⟩) (v := ?_) rfl (by kernel_rfl) (by kernel_rfl) (by kernel_rfl) (fun _ _ _ h => h) (Or.inl ⟨by rfl, ?_⟩) (by assumption) ?_
    rotate_left
    · intro w hSw; (try dsimp only at hSw); go_simp; try with_reducible rfl
    simp only [Act.put, List.setIfInBounds_toArray, List.set_cons_zero, List.set_cons_succ]
    refine wpAnyH_take (i := 46) (oi := ⟨some 182, _, _, _, _, _⟩) (v := ?_) rfl (by kernel_rfl) (by kernel_rfl) (by kernel_rfl) (fun _ _ _ h => h) (Or.inl ⟨by rfl, ?_⟩) (by assumption) ?_
    rotate_left
    · intro w hSw; (try dsimp only at hSw); go_simp; try with_reducible rfl
    simp only [Act.put, List.setIfInBounds_toArray, List.set_cons_zero, List.set_cons_succ]
    refine wpAnyH_take (i := 47) (oi := ⟨some 183, _, _, _, _, _⟩) (v := ?_) rfl (by kernel_rfl) (by kernel_rfl) (by kernel_rfl) (fun _ _ _ h => h) (Or.inl ⟨by rfl, ?_⟩) (by assumption) ?_
    rotate_left
    · intro w hSw; (try dsimp only at hSw); go_simp; try with_reducible rfl
    simp only [Act.put, List.setIfInBounds_toArray, List.set_cons_zero, List.set_cons_succ]
    refine wpAnyH_take (i := 48) (oi := ⟨some 184, _, _, _, _, _⟩) (v := ?_) rfl (by kernel_rfl) (by kernel_rfl) (by kernel_rfl) (fun _ _ _ h => h) (Or.inl ⟨by rfl, ?_⟩) (by assumption) ?_
    rotate_left
    · intro w hSw; (try dsimp only at hSw); go_simp; try with_reducible rfl
    simp only [Act.put, List.setIfInBounds_toArray, List.set_cons_zero, List.set_cons_succ]
    refine wpAnyH_take (i := 49) (oi := ⟨some 185, _, _, _, _, _⟩) (v := ?_) rfl (by kernel_rfl) (by kernel_rfl) (by kernel_rfl) (fun _ _ _ h => h) (Or.inl ⟨by rfl, ?_⟩) (by assumption) ?_
    rotate_left
    · intro w hSw; (try dsimp only at hSw); go_simp; try with_reducible rfl
    simp only [Act.put, List.setIfInBounds_toArray, List.set_cons_zero, List.set_cons_succ]
    refine wpAnyH_take (i := 50) (oi := ⟨some 186, _, _, _, _, _⟩) (v := ?_) rfl (by kernel_rfl) (by kernel_rfl) (by kernel_rfl) (fun _ _ _ h => h) (Or.inl ⟨by rfl, ?_⟩) (by assumption) ?_
    rotate_left
    · intro w hSw; (try dsimp only at hSw); go_simp; try with_reducible rfl
    simp only [Act.put, List.setIfInBounds_toArray, List.set_cons_zero, List.set_cons_succ]
    refine wpAnyH_take (i := 51) (oi := ⟨some 187, _, _, _, _, _⟩) (v := ?_) rfl (by kernel_rfl) (by kernel_rfl) (by kernel_rfl) (fun _ _ _ h => h) (Or.inl ⟨by rfl, ?_⟩) (by assumption) ?_
    rotate_left
    · intro w hSw; (try dsimp only at hSw); go_simp; try with_reducible rfl
    simp only [Act.put, List.setIfInBounds_toArray, List.set_cons_zero, List.set_cons_succ]
    refine wpAnyH_take (i := 52) (oi := ⟨some 188, _, _, _, _, _⟩) (v := ?_) rfl (by kernel_rfl) (by kernel_rfl) (by kernel_rfl) (fun _ _ _ h => h) (Or.inl ⟨by rfl, ?_⟩) (by assumption) ?_
    rotate_left
    · intro w hSw; (try dsimp only at hSw); go_simp; try with_reducible rfl
    simp only [Act.put, List.setIfInBounds_toArray, List.set_cons_zero, List.set_cons_succ]
    refine wpAnyH_take (i := 53) (oi := ⟨some 189, _, _, _, _, _⟩) (v := ?_) rfl (by kernel_rfl) (by kernel_rfl) (by kernel_rfl) (fun _ _ _ h => h) (Or.inl ⟨by rfl, ?_⟩) (by assumption) ?_
    rotate_left
    · intro w hSw; (try dsimp only at hSw); go_simp; try with_reducible rfl
    simp only [Act.put, List.setIfInBounds_toArray, List.set_cons_zero, List.set_cons_succ]
    refine wpAnyH_take (i := 54) (oi := ⟨some 6, _, _, _, _, _⟩) (v := ?_) rfl (by kernel_rfl) (by kernel_rfl) (by kernel_rfl) (fun _ _ _ h => h) (Or.inl ⟨by rfl, ?_⟩) (by assumption) ?_
    rotate_left
    · intro w hSw; (try dsimp only at hSw); go_simp; try with_reducible rfl
    simp only [Act.put, List.setIfInBounds_toArray, List.set_cons_zero, List.set_cons_succ]
    refine wpAnyH_done (by kernel_rfl) ?_ _
    have H := KH.out _ hHeld
    clear KS KH hHeld
    go_wp2
    go_ret
    exact ⟨rfl, H.old⟩
  · have ES := Lib.hid hS; clear hS
    have ED := Lib.hid hD; clear hD
    have HLE : Hid (Y ≤ X) := Lib.hid (of_decide_eq_true (hbS.out.trans hbs))
    clear hbS; subst hbs
    go_wp2_with fail
    replace H := (H.box2 (.int .u64 0) (.int .u64 0) 24)
    have KS : Hid (∀ w' : World, Held w [.cell (wz.heap.size) 0 (.int .u64 0), .cell (wz.heap.size) 1 (.int .u64 0), .cell (w10.heap.size) 0 (.slice qa qk qc), .num (.slice qa qk qc) (Q) 19, .cell (w9.heap.size) 0 (.slice pa pk pc), .num (.slice pa pk pc) (P) 24, .cell (w8.heap.size) 0 (.int .u64 dh), .cell (w8.heap.size) 1 (.int .u64 dl), .cell (w7.heap.size) 0 (.int .u64 sh), .cell (w7.heap.size) 1 (.int .u64 sl), .cell (w6.heap.size) 0 (.int .u64 0), .cell (w6.heap.size) 1 (.int .u64 0), .cell (w5.heap.size) 0 (.slice ma mk mc), .num (.slice ma mk mc) (T) 23, .cell (w4.heap.size) 0 (.slice ca ck cc), .num (.slice ca ck cc) (n) 5, .cell (w3.heap.size) 0 (.slice ba bk bc), .num (.slice ba bk bc) (Y) 18, .cell (w2.heap.size) 0 (.slice aa ak ac), .num (.slice aa ak ac) (X) 18, .cell (w.heap.size + 1) 0 (.int .u64 yh), .cell (w.heap.size + 1) 1 (.int .u64 yl), .cell (w.heap.size) 0 (.int .u64 xh), .cell (w.heap.size) 1 (.int .u64 xl)] w' → w'.cell? ⟨w6.heap.size, 0, none⟩ = some (.int .u64 0) ∧ w'.cell? ⟨w6.heap.size, 1, none⟩ = some (.int .u64 0) ∧ w'.cell? ⟨w9.heap.size, 0, none⟩ = some (.slice pa pk pc) ∧ w'.cell? ⟨w7.heap.size, 0, none⟩ = some (.int .u64 sh) ∧ w'.cell? ⟨w7.heap.size, 1, none⟩ = some (.int .u64 sl) ∧ w'.cell? ⟨w10.heap.size, 0, none⟩ = some (.slice qa qk qc) ∧ w'.cell? ⟨w8.heap.size, 0, none⟩ = some (.int .u64 dh) ∧ w'.cell? ⟨w8.heap.size, 1, none⟩ = some (.int .u64 dl) ∧ w'.cell? ⟨w2.heap.size, 0, none⟩ = some (.slice aa ak ac) ∧ w'.cell? ⟨w3.heap.size, 0, none⟩ = some (.slice ba bk bc) ∧ w'.cell? ⟨wz.heap.size, 0, none⟩ = some (.int .u64 0) ∧ w'.cell? ⟨wz.heap.size, 1, none⟩ = some (.int .u64 0) ∧ Held w [.cell (wz.heap.size) 0 (.int .u64 0), .cell (wz.heap.size) 1 (.int .u64 0), .cell (w10.heap.size) 0 (.slice qa qk qc), .num (.slice qa qk qc) (Q) 19, .cell (w9.heap.size) 0 (.slice pa pk pc), .num (.slice pa pk pc) (P) 24, .cell (w8.heap.size) 0 (.int .u64 dh), .cell (w8.heap.size) 1 (.int .u64 dl), .cell (w7.heap.size) 0 (.int .u64 sh), .cell (w7.heap.size) 1 (.int .u64 sl), .cell (w6.heap.size) 0 (.int .u64 0), .cell (w6.heap.size) 1 (.int .u64 0), .cell (w5.heap.size) 0 (.slice ma mk mc), .num (.slice ma mk mc) (T) 23, .cell (w4.heap.size) 0 (.slice ca ck cc), .num (.slice ca ck cc) (n) 5, .cell (w3.heap.size) 0 (.slice ba bk bc), .num (.slice ba bk bc) (Y) 18, .cell (w2.heap.size) 0 (.slice aa ak ac), .num (.slice aa ak ac) (X) 18, .cell (w.heap.size + 1) 0 (.int .u64 yh), .cell (w.heap.size + 1) 1 (.int .u64 yl), .cell (w.heap.size) 0 (.int .u64 xh), .cell (w.heap.size) 1 (.int .u64 xl)] w') := Lib.hid (fun _ h => ⟨h.cell (w6.heap.size) 0 (.int .u64 0) (List.Mem.tail _ (List.Mem.tail _ (List.Mem.tail _ (List.Mem.tail _ (List.Mem.tail _ (List.Mem.tail _ (List.Mem.tail _ (List.Mem.tail _ (List.Mem.tail _ (List.Mem.tail _ (List.Mem.head _))))))))))), h.cell (w6.heap.size) 1 (.int .u64 0) (List.Mem.tail _ (List.Mem.tail _ (List.Mem.tail _ (List.Mem.tail _ (List.Mem.tail _ (List.Mem.tail _ (List.Mem.tail _ (List.Mem.tail _ (List.Mem.tail _ (List.Mem.tail _ (List.Mem.tail _ (List.Mem.head _)))))))))))), h.cell (w9.heap.size) 0 (.slice pa pk pc) (List.Mem.tail _ (List.Mem.tail _ (List.Mem.tail _ (List.Mem.tail _ (List.Mem.head _))))), h.cell (w7.heap.size) 0 (.int .u64 sh) (List.Mem.tail _ (List.Mem.tail _ (List.Mem.tail _ (List.Mem.tail _ (List.Mem.tail _ (List.Mem.tail _ (List.Mem.tail _ (List.Mem.tail _ (List.Mem.head _))))))))), h.cell (w7.heap.size) 1 (.int .u64 sl) (List.Mem.tail _ (List.Mem.tail _ (List.Mem.tail _ (List.Mem.tail _ (List.Mem.tail _ (List.Mem.tail _ (List.Mem.tail _ (List.Mem.tail _ (List.Mem.tail _ (List.Mem.head _)))))))))), h.cell (w10.heap.size) 0 (.slice qa qk qc) (List.Mem.tail _ (List.Mem.tail _ (List.Mem.head _))), h.cell (w8.heap.size) 0 (.int .u64 dh) (List.Mem.tail _ (List.Mem.tail _ (List.Mem.tail _ (List.Mem.tail _ (List.Mem.tail _ (List.Mem.tail _ (List.Mem.head _))))))), h.cell (w8.heap.size) 1 (.int .u64 dl) (List.Mem.tail _ (List.Mem.tail _ (List.Mem.tail _ (List.Mem.tail _ (List.Mem.tail _ (List.Mem.tail _ (List.Mem.tail _ (List.Mem.head _)))))))), h.cell (w2.heap.size) 0 (.slice aa ak ac) (List.Mem.tail _ (List.Mem.tail _ (List.Mem.tail _ (List.Mem.tail _ (List.Mem.tail _ (List.Mem.tail _ (List.Mem.tail _ (List.Mem.tail _ (List.Mem.tail _ (List.Mem.tail _ (List.Mem.tail _ (List.Mem.tail _ (List.Mem.tail _ (List.Mem.tail _ (List.Mem.tail _ (List.Mem.tail _ (List.Mem.tail _ (List.Mem.tail _ (List.Mem.head _))))))))))))))))))), h.cell (w3.heap.size) 0 (.slice ba bk bc) (List.Mem.tail _ (List.Mem.tail _ (List.Mem.tail _ (List.Mem.tail _ (List.Mem.tail _ (List.Mem.tail _ (List.Mem.tail _ (List.Mem.tail _ (List.Mem.tail _ (List.Mem.tail _ (List.Mem.tail _ (List.Mem.tail _ (List.Mem.tail _ (List.Mem.tail _ (List.Mem.tail _ (List.Mem.tail _ (List.Mem.head _))))))))))))))))), h.cell (wz.heap.size) 0 (.int .u64 0) (List.Mem.head _), h.cell (wz.heap.size) 1 (.int .u64 0) (List.Mem.tail _ (List.Mem.head _)), h⟩)
    have KH : Hid (∀ w' : World, w'.cell? ⟨w6.heap.size, 0, none⟩ = some (.int .u64 0) ∧ w'.cell? ⟨w6.heap.size, 1, none⟩ = some (.int .u64 0) ∧ w'.cell? ⟨w9.heap.size, 0, none⟩ = some (.slice pa pk pc) ∧ w'.cell? ⟨w7.heap.size, 0, none⟩ = some (.int .u64 sh) ∧ w'.cell? ⟨w7.heap.size, 1, none⟩ = some (.int .u64 sl) ∧ w'.cell? ⟨w10.heap.size, 0, none⟩ = some (.slice qa qk qc) ∧ w'.cell? ⟨w8.heap.size, 0, none⟩ = some (.int .u64 dh) ∧ w'.cell? ⟨w8.heap.size, 1, none⟩ = some (.int .u64 dl) ∧ w'.cell? ⟨w2.heap.size, 0, none⟩ = some (.slice aa ak ac) ∧ w'.cell? ⟨w3.heap.size, 0, none⟩ = some (.slice ba bk bc) ∧ w'.cell? ⟨wz.heap.size, 0, none⟩ = some (.int .u64 0) ∧ w'.cell? ⟨wz.heap.size, 1, none⟩ = some (.int .u64 0) ∧ Held w [.cell (wz.heap.size) 0 (.int .u64 0), .cell (wz.heap.size) 1 (.int .u64 0), .cell (w10.heap.size) 0 (.slice qa qk qc), .num (.slice qa qk qc) (Q) 19, .cell (w9.heap.size) 0 (.slice pa pk pc), .num (.slice pa pk pc) (P) 24, .cell (w8.heap.size) 0 (.int .u64 dh), .cell (w8.heap.size) 1 (.int .u64 dl), .cell (w7.heap.size) 0 (.int .u64 sh), .cell (w7.heap.size) 1 (.int .u64 sl), .cell (w6.heap.size) 0 (.int .u64 0), .cell (w6.heap.size) 1 (.int .u64 0), .cell (w5.heap.size) 0 (.slice ma mk mc), .num (.slice ma mk mc) (T) 23, .cell (w4.heap.size) 0 (.slice ca ck cc), .num (.slice ca ck cc) (n) 5, .cell (w3.heap.size) 0 (.slice ba bk bc), .num (.slice ba bk bc) (Y) 18, .cell (w2.heap.size) 0 (.slice aa ak ac), .num (.slice aa ak ac) (X) 18, .cell (w.heap.size + 1) 0 (.int .u64 yh), .cell (w.heap.size + 1) 1 (.int .u64 yl), .cell (w.heap.size) 0 (.int .u64 xh), .cell (w.heap.size) 1 (.int .u64 xl)] w' → Held w [.cell (wz.heap.size) 0 (.int .u64 0), .cell (wz.heap.size) 1 (.int .u64 0), .cell (w10.heap.size) 0 (.slice qa qk qc), .num (.slice qa qk qc) (Q) 19, .cell (w9.heap.size) 0 (.slice pa pk pc), .num (.slice pa pk pc) (P) 24, .cell (w8.heap.size) 0 (.int .u64 dh), .cell (w8.heap.size) 1 (.int .u64 dl), .cell (w7.heap.size) 0 (.int .u64 sh), .cell (w7.heap.size) 1 (.int .u64 sl), .cell (w6.heap.size) 0 (.int .u64 0), .cell (w6.heap.size) 1 (.int .u64 0), .cell (w5.heap.size) 0 (.slice ma mk mc), .num (.slice ma mk mc) (T) 23, .cell (w4.heap.size) 0 (.slice ca ck cc), .num (.slice ca ck cc) (n) 5, .cell (w3.heap.size) 0 (.slice ba bk bc), .num (.slice ba bk bc) (Y) 18, .cell (w2.heap.size) 0 (.slice aa ak ac), .num (.slice aa ak ac) (X) 18, .cell (w.heap.size + 1) 0 (.int .u64 yh), .cell (w.heap.size + 1) 1 (.int .u64 yl), .cell (w.heap.size) 0 (.int .u64 xh), .cell (w.heap.size) 1 (.int .u64 xl)] w') := Lib.hid (fun _ h => h.2.2.2.2.2.2.2.2.2.2.2.2)
    refine wp_region_held_drew (S := fun w' => w'.cell? ⟨w6.heap.size, 0, none⟩ = some (.int .u64 0) ∧ w'.cell? ⟨w6.heap.size, 1, none⟩ = some (.int .u64 0) ∧ w'.cell? ⟨w9.heap.size, 0, none⟩ = some (.slice pa pk pc) ∧ w'.cell? ⟨w7.heap.size, 0, none⟩ = some (.int .u64 sh) ∧ w'.cell? ⟨w7.heap.size, 1, none⟩ = some (.int .u64 sl) ∧ w'.cell? ⟨w10.heap.size, 0, none⟩ = some (.slice qa qk qc) ∧ w'.cell? ⟨w8.heap.size, 0, none⟩ = some (.int .u64 dh) ∧ w'.cell? ⟨w8.heap.size, 1, none⟩ = some (.int .u64 dl) ∧ w'.cell? ⟨w2.heap.size, 0, none⟩ = some (.slice aa ak ac) ∧ w'.cell? ⟨w3.heap.size, 0, none⟩ = some (.slice ba bk bc) ∧ w'.cell? ⟨wz.heap.size, 0, none⟩ = some (.int .u64 0) ∧ w'.cell? ⟨wz.heap.size, 1, none⟩ = some (.int .u64 0) ∧ Held w [.cell (wz.heap.size) 0 (.int .u64 0), .cell (wz.heap.size) 1 (.int .u64 0), .cell (w10.heap.size) 0 (.slice qa qk qc), .num (.slice qa qk qc) (Q) 19, .cell (w9.heap.size) 0 (.slice pa pk pc), .num (.slice pa pk pc) (P) 24, .cell (w8.heap.size) 0 (.int .u64 dh), .cell (w8.heap.size) 1 (.int .u64 dl), .cell (w7.heap.size) 0 (.int .u64 sh), .cell (w7.heap.size) 1 (.int .u64 sl), .cell (w6.heap.size) 0 (.int .u64 0), .cell (w6.heap.size) 1 (.int .u64 0), .cell (w5.heap.size) 0 (.slice ma mk mc), .num (.slice ma mk mc) (T) 23, .cell (w4.heap.size) 0 (.slice ca ck cc), .num (.slice ca ck cc) (n) 5, .cell (w3.heap.size) 0 (.slice ba bk bc), .num (.slice ba bk bc) (Y) 18, .cell (w2.heap.size) 0 (.slice aa ak ac), .num (.slice aa ak ac) (X) 18, .cell (w.heap.size + 1) 0 (.int .u64 yh), .cell (w.heap.size + 1) 1 (.int .u64 yl), .cell (w.heap.size) 0 (.int .u64 xh), .cell (w.heap.size) 1 (.int .u64 xl)] w') (by kernel_rfl) (KS.out _ H.drew) (fun hHeld => ?_)
    clear H
    refine wpAnyH_take (i := 0) (oi := ⟨some 136, _, _, _, _, _⟩) (v := ?_) rfl (by kernel_rfl) (by kernel_rfl) (by kernel_rfl) (fun _ _ _ h => h) (Or.inl ⟨by rfl, ?_⟩) (by assumption) ?_
    rotate_left
    · intro w hSw; (try dsimp only at hSw); go_simp; try with_reducible rfl
    simp only [Act.put, List.setIfInBounds_toArray, List.set_cons_zero, List.set_cons_succ]
    refine wpAnyH_take (i := 1) (oi := ⟨some 137, _, _, _, _, _⟩) (v := ?_) rfl (by kernel_rfl) (by kernel_rfl) (by kernel_rfl) (fun _ _ _ h => h) (Or.inl ⟨by rfl, ?_⟩) (by assumption) ?_
    rotate_left
    · intro w hSw; (try dsimp only at hSw); go_simp; try with_reducible rfl
    simp only [Act.put, List.setIfInBounds_toArray, List.set_cons_zero, List.set_cons_succ]
    refine wpAnyH_take (i := 2) (oi := ⟨some 138, _, _, _, _, _⟩) (v := ?_) rfl (by kernel_rfl) (by kernel_rfl) (by kernel_rfl) (fun _ _ _ h => h) (Or.inl ⟨by rfl, ?_⟩) (by assumption) ?_
    rotate_left
    · intro w hSw; (try dsimp only at hSw); go_simp; try with_reducible rfl
    simp only [Act.put, List.setIfInBounds_toArray, List.set_cons_zero, List.set_cons_succ]
    refine wpAnyH_take (i := 3) (oi := ⟨some 139, _, _, _, _, _⟩) (v := ?_) rfl (by kernel_rfl) (by kernel_rfl) (by kernel_rfl) (fun _ _ _ h => h) (Or.inl ⟨by rfl, ?_⟩) (by assumption) ?_
    rotate_left
    · intro w hSw; (try dsimp only at hSw); go_simp; try with_reducible rfl
    simp only [Act.put, List.setIfInBounds_toArray, List.set_cons_zero, List.set_cons_succ]
    refine wpAnyH_take (i := 4) (oi := ⟨some 140, _, _, _, _, _⟩) (v := undef) rfl (by kernel_rfl) (by kernel_rfl) (by kernel_rfl) (fun _ _ _ h => h) (Or.inr ⟨by rfl, rfl⟩) (by assumption) ?_
    simp only [Act.put, List.setIfInBounds_toArray, List.set_cons_zero, List.set_cons_succ]
    refine wpAnyH_take (i := 5) (oi := ⟨some 141, _, _, _, _, _⟩) (v := undef) rfl (by kernel_rfl) (by kernel_rfl) (by kernel_rfl) (fun _ _ _ h => h) (Or.inr ⟨by rfl, rfl⟩) (by assumption) ?_
    simp only [Act.put, List.setIfInBounds_toArray, List.set_cons_zero, List.set_cons_succ]
    refine wpAnyH_take (i := 6) (oi := ⟨some 142, _, _, _, _, _⟩) (v := undef) rfl (by kernel_rfl) (by kernel_rfl) (by kernel_rfl) (fun _ _ _ h => h) (Or.inr ⟨by rfl, rfl⟩) (by assumption) ?_
    simp only [Act.put, List.setIfInBounds_toArray, List.set_cons_zero, List.set_cons_succ]
    refine wpAnyH_take (i := 7) (oi := ⟨some 143, _, _, _, _, _⟩) (v := ?_) rfl (by kernel_rfl) (by kernel_rfl) (by kernel_rfl) (fun _ _ _ h => h) (Or.inl ⟨by rfl, ?_⟩) (by assumption) ?_
    rotate_left
    · intro w hSw; (try dsimp only at hSw); go_simp; try with_reducible rfl
    simp only [Act.put, List.setIfInBounds_toArray, List.set_cons_zero, List.set_cons_succ]
    refine wpAnyH_take (i := 8) (oi := ⟨some 144, _, _, _, _, _⟩) (v := ?_) rfl (by kernel_rfl) (by kernel_rfl) (by kernel_rfl) (fun _ _ _ h => h) (Or.inl ⟨by rfl, ?_⟩) (by assumption) ?_
    rotate_left
    · intro w hSw; (try dsimp only at hSw); go_simp; try with_reducible rfl
    simp only [Act.put, List.setIfInBounds_toArray, List.set_cons_zero, List.set_cons_succ]
    refine wpAnyH_take (i := 9) (oi := ⟨some 145, _, _, _, _, _⟩) (v := ?_) rfl (by kernel_rfl) (by kernel_rfl) (by kernel_rfl) (fun _ _ _ h => h) (Or.inl ⟨by rfl, ?_⟩) (by assumption) ?_
    rotate_left
    · intro w hSw; (try dsimp only at hSw); go_simp; try with_reducible rfl
    simp only [Act.put, List.setIfInBounds_toArray, List.set_cons_zero, List.set_cons_succ]
    refine wpAnyH_take (i := 10) (oi := ⟨some 146, _, _, _, _, _⟩) (v := ?_) rfl (by kernel_rfl) (by kernel_rfl) (by kernel_rfl) (fun _ _ _ h => h) (Or.inl ⟨by rfl, ?_⟩) (by assumption) ?_
    rotate_left
    · intro w hSw; (try dsimp only at hSw); go_simp; try with_reducible rfl
    simp only [Act.put, List.setIfInBounds_toArray, List.set_cons_zero, List.set_cons_succ]
    refine wpAnyH_take (i := 11) (oi := ⟨some 147, _, _, _, _, _⟩) (v := ?_) rfl (by kernel_rfl) (by kernel_rfl) (by kernel_rfl) (fun _ _ _ h => h) (Or.inl ⟨by rfl, ?_⟩) (by assumption) ?_
    rotate_left
    · intro w hSw; (try dsimp only at hSw); go_simp; try with_reducible rfl
    simp only [Act.put, List.setIfInBounds_toArray, List.set_cons_zero, List.set_cons_succ]
    refine wpAnyH_take (i := 12) (oi := ⟨some 148, _, _, _, _, _⟩) (v := ?_) rfl (by kernel_rfl) (by kernel_rfl) (by kernel_rfl) (fun _ _ _ h => h) (Or.inl ⟨by rfl, ?_⟩) (by assumption) ?_
    rotate_left
    · intro w hSw; (try dsimp only at hSw); go_simp; try with_reducible rfl
    simp only [Act.put, List.setIfInBounds_toArray, List.set_cons_zero, List.set_cons_succ]
    refine wpAnyH_take (i := 13) (oi := ⟨some 149, _, _, _, _, _⟩) (v := ?_) rfl (by kernel_rfl) (by kernel_rfl) (by kernel_rfl) (fun _ _ _ h => h) (Or.inl ⟨by rfl, ?_⟩) (by assumption) ?_
    rotate_left
    · intro w hSw; (try dsimp only at hSw); go_simp; try with_reducible rfl
    simp only [Act.put, List.setIfInBounds_toArray, List.set_cons_zero, List.set_cons_succ]
    refine wpAnyH_take (i := 14) (oi := ⟨some 150, _, _, _, _, _⟩) (v := ?_) rfl (by kernel_rfl) (by kernel_rfl) (by kernel_rfl) (fun _ _ _ h => h) (Or.inl ⟨by rfl, ?_⟩) (by assumption) ?_
    rotate_left
    · intro w hSw; (try dsimp only at hSw); go_simp; try with_reducible rfl
    simp only [Act.put, List.setIfInBounds_toArray, List.set_cons_zero, List.set_cons_succ]
    refine wpAnyH_take (i := 15) (oi := ⟨some 151, _, _, _, _, _⟩) (v := ?_) rfl (by kernel_rfl) (by kernel_rfl) (by kernel_rfl) (fun _ _ _ h => h) (Or.inl ⟨by rfl, ?_⟩) (by assumption) ?_
    rotate_left
    · intro w hSw; (try dsimp only at hSw); go_simp; try with_reducible rfl
    simp only [Act.put, List.setIfInBounds_toArray, List.set_cons_zero, List.set_cons_succ]
    refine wpAnyH_take (i := 16) (oi := ⟨some 152, _, _, _, _, _⟩) (v := ?_) rfl (by kernel_rfl) (by kernel_rfl) (by kernel_rfl) (fun _ _ _ h => h) (Or.inl ⟨by rfl, ?_⟩) (by assumption) ?_
    rotate_left
    · intro w hSw; (try dsimp only at hSw); go_simp; try with_reducible rfl
    simp only [Act.put, List.setIfInBounds_toArray, List.set_cons_zero, List.set_cons_succ]
    refine wpAnyH_take (i := 17) (oi := ⟨some 153, _, _, _, _, _⟩) (v := ?_) rfl (by kernel_rfl) (by kernel_rfl) (by kernel_rfl) (fun _ _ _ h => h) (Or.inl ⟨by rfl, ?_⟩) (by assumption) ?_
    rotate_left
    · intro w hSw; (try dsimp only at hSw); go_simp; try with_reducible rfl
    simp only [Act.put, List.setIfInBounds_toArray, List.set_cons_zero, List.set_cons_succ]
    refine wpAnyH_take (i := 18) (oi := ⟨some 154, _, _, _, _, _⟩) (v := ?_) rfl (by kernel_rfl) (by kernel_rfl) (by kernel_rfl) (fun _ _ _ h => h) (Or.inl ⟨by rfl, ?_⟩) (by assumption) ?_
    rotate_left
    · intro w hSw; (try dsimp only at hSw); go_simp; try with_reducible rfl
    simp only [Act.put, List.setIfInBounds_toArray, List.set_cons_zero, List.set_cons_succ]
    refine wpAnyH_take (i := 19) (oi := ⟨some 155, _, _, _, _, _⟩) (v := ?_) rfl (by kernel_rfl) (by kernel_rfl) (by kernel_rfl) (fun _ _ _ h => h) (Or.inl ⟨by rfl, ?_⟩) (by assumption) ?_
    rotate_left
    · intro w hSw; (try dsimp only at hSw); go_simp; try with_reducible rfl
    simp only [Act.put, List.setIfInBounds_toArray, List.set_cons_zero, List.set_cons_succ]
    refine wpAnyH_take (i := 20) (oi := ⟨some 156, _, _, _, _, _⟩) (v := ?_) rfl (by kernel_rfl) (by kernel_rfl) (by kernel_rfl) (fun _ _ _ h => h) (Or.inl ⟨by rfl, ?_⟩) (by assumption) ?_
    rotate_left
    · intro w hSw; (try dsimp only at hSw); go_simp; try with_reducible rfl
    simp only [Act.put, List.setIfInBounds_toArray, List.set_cons_zero, List.set_cons_succ]
    refine wpAnyH_take (i := 21) (oi := ⟨some 157, _, _, _, _, _⟩) (v := ?_) rfl (by kernel_rfl) (by kernel_rfl) (by kernel_rfl) (fun _ _ _ h => h) (Or.inl ⟨by rfl, ?_⟩) (by assumption) ?_
    rotate_left
    · intro w hSw; (try dsimp only at hSw); go_simp; try with_reducible rfl
    simp only [Act.put, List.setIfInBounds_toArray, List.set_cons_zero, List.set_cons_succ]
    refine wpAnyH_take (i := 22) (oi := ⟨some 158, _, _, _, _, _⟩) (v := ?_) rfl (by kernel_rfl) (by kernel_rfl) (by kernel_rfl) (fun _ _ _ h => h) (Or.inl ⟨by rfl, ?_⟩) (by assumption) ?_
    rotate_left
    · intro w hSw; (try dsimp only at hSw); go_simp; try with_reducible rfl
    simp only [Act.put, List.setIfInBounds_toArray, List.set_cons_zero, List.set_cons_succ]
    refine wpAnyH_ready (rs := [23]) (by kernel_rfl) (by simp) ?_
    refine AllReadyH.cons (o := ⟨some 159, _, _, _, _, _⟩) rfl (fun K hK => ?_) AllReadyH.nil
    go_simp
    (with_reducible refine (is_true sh sl qa qk qc Q 19 _ (by omega) (by omega) (by omega) (by omega) (Held.big (KH.out _ hHeld) (.slice qa qk qc) (Q) 19 (List.Mem.tail _ (List.Mem.tail _ (List.Mem.tail _ (List.Mem.head _))))) (by omega) ES.out).mono ?_)
    rintro e w' ⟨rfl, hb⟩
    go_wp2_with fail
    refine hK.out _ _ ?_ (fun hNew => ?_)
    · exact KS.out _ (Held.below (KH.out _ hHeld) hb)
    clear hK K hHeld
    clear hb
    have hHeld := hNew
    clear hNew
    try simp only [Act.put, List.setIfInBounds_toArray, List.set_cons_zero, List.set_cons_succ]
    refine wpAnyH_take (i := 24) (oi := ⟨some 160, _, _, _, _, _⟩) (v := ?_) rfl (by kernel_rfl) (by kernel_rfl) (by kernel_rfl) (fun _ _ _ h => h) (Or.inl ⟨by rfl, ?_⟩) (by assumption) ?_
    rotate_left
    · intro w hSw; (try dsimp only at hSw); go_simp; try with_reducible rfl
    simp only [Act.put, List.setIfInBounds_toArray, List.set_cons_zero, List.set_cons_succ]
    refine wpAnyH_take (i := 25) (oi := ⟨some 161, _, _, _, _, _⟩) (v := ?_) rfl (by kernel_rfl) (by kernel_rfl) (by kernel_rfl) (fun _ _ _ h => h) (Or.inl ⟨by rfl, ?_⟩) (by assumption) ?_
    rotate_left
    · intro w hSw; (try dsimp only at hSw); go_simp; try with_reducible rfl
    simp only [Act.put, List.setIfInBounds_toArray, List.set_cons_zero, List.set_cons_succ]
    refine wpAnyH_take (i := 26) (oi := ⟨some 162, _, _, _, _, _⟩) (v := undef) rfl (by kernel_rfl) (by kernel_rfl) (by kernel_rfl) (fun _ _ _ h => h) (Or.inr ⟨by rfl, rfl⟩) (by assumption) ?_
    simp only [Act.put, List.setIfInBounds_toArray, List.set_cons_zero, List.set_cons_succ]
    refine wpAnyH_take (i := 27) (oi := ⟨some 163, _, _, _, _, _⟩) (v := undef) rfl (by kernel_rfl) (by kernel_rfl) (by kernel_rfl) (fun _ _ _ h => h) (Or.inr ⟨by rfl, rfl⟩) (by assumption) ?_
    simp only [Act.put, List.setIfInBounds_toArray, List.set_cons_zero, List.set_cons_succ]
    refine wpAnyH_take (i := 28) (oi := ⟨some 164, _, _, _, _, _⟩) (v := undef) rfl (by kernel_rfl) (by kernel_rfl) (by kernel_rfl) (fun _ _ _ h => h) (Or.inr ⟨by rfl, rfl⟩) (by assumption) ?_
    simp only [Act.put, List.setIfInBounds_toArray, List.set_cons_zero, List.set_cons_succ]
    refine wpAnyH_take (i := 29) (oi := ⟨some 165, _, _, _, _, _⟩) (v := undef) rfl (by kernel_rfl) (by kernel_rfl) (by kernel_rfl) (fun _ _ _ h => h) (Or.inr ⟨by rfl, rfl⟩) (by assumption) ?_
    simp only [Act.put, List.setIfInBounds_toArray, List.set_cons_zero, List.set_cons_succ]
    refine wpAnyH_take (i := 30) (oi := ⟨some 166, _, _, _, _, _⟩) (v := undef) rfl (by kernel_rfl) (by kernel_rfl) (by kernel_rfl) (fun _ _ _ h => h) (Or.inr ⟨by rfl, rfl⟩) (by assumption) ?_
    simp only [Act.put, List.setIfInBounds_toArray, List.set_cons_zero, List.set_cons_succ]
    refine wpAnyH_take (i := 31) (oi := ⟨some 167, _, _, _, _, _⟩) (v := undef) rfl (by kernel_rfl) (by kernel_rfl) (by kernel_rfl) (fun _ _ _ h => h) (Or.inr ⟨by rfl, rfl⟩) (by assumption) ?_
    simp only [Act.put, List.setIfInBounds_toArray, List.set_cons_zero, List.set_cons_succ]
    refine wpAnyH_take (i := 32) (oi := ⟨some 168, _, _, _, _, _⟩) (v := undef) rfl (by kernel_rfl) (by kernel_rfl) (by kernel_rfl) (fun _ _ _ h => h) (Or.inr ⟨by rfl, rfl⟩) (by assumption) ?_
    simp only [Act.put, List.setIfInBounds_toArray, List.set_cons_zero, List.set_cons_succ]
    refine wpAnyH_take (i := 33) (oi := ⟨some 169, _, _, _, _, _⟩) (v := ?_) rfl (by kernel_rfl) (by kernel_rfl) (by kernel_rfl) (fun _ _ _ h => h) (Or.inl ⟨by rfl, ?_⟩) (by assumption) ?_
    rotate_left
    · intro w hSw; (try dsimp only at hSw); go_simp; try with_reducible rfl
    simp only [Act.put, List.setIfInBounds_toArray, List.set_cons_zero, List.set_cons_succ]
    refine wpAnyH_take (i := 34) (oi := ⟨some 170, _, _, _, _, _⟩) (v := ?_) rfl (by kernel_rfl) (by kernel_rfl) (by kernel_rfl) (fun _ _ _ h => h) (Or.inl ⟨by rfl, ?_⟩) (by assumption) ?_
    rotate_left
    · intro w hSw; (try dsimp only at hSw); go_simp; try with_reducible rfl
    simp only [Act.put, List.setIfInBounds_toArray, List.set_cons_zero, List.set_cons_succ]
    refine wpAnyH_take (i := 35) (oi := ⟨some 171, _, _, _, _, _⟩) (v := ?_) rfl (by kernel_rfl) (by kernel_rfl) (by kernel_rfl) (fun _ _ _ h => h) (Or.inl ⟨by rfl, ?_⟩) (by assumption) ?_
    rotate_left
    · intro w hSw; (try dsimp only at hSw); go_simp; try with_reducible rfl
    simp only [Act.put, List.setIfInBounds_toArray, List.set_cons_zero, List.set_cons_succ]
    refine wpAnyH_take (i := 36) (oi := ⟨some 172, _, _, _, _, _⟩) (v := ?_) rfl (by kernel_rfl) (by kernel_rfl) (by kernel_rfl) (fun _ _ _ h => h) (Or.inl ⟨by rfl, ?_⟩) (by assumption) ?_
    rotate_left
    · intro w hSw; (try dsimp only at hSw); go_simp; try with_reducible rfl
    simp only [Act.put, List.setIfInBounds_toArray, List.set_cons_zero, List.set_cons_succ]
    refine wpAnyH_take (i := 37) (oi := ⟨some 173, _, _, _, _, _⟩) (v := ?_) rfl (by kernel_rfl) (by kernel_rfl) (by kernel_rfl) (fun _ _ _ h => h) (Or.inl ⟨by rfl, ?_⟩) (by assumption) ?_
    rotate_left
    · intro w hSw; (try dsimp only at hSw); go_simp; try with_reducible rfl
    simp only [Act.put, List.setIfInBounds_toArray, List.set_cons_zero, List.set_cons_succ]
    refine wpAnyH_take (i := 38) (oi := ⟨some 174, _, _, _, _, _⟩) (v := ?_) rfl (by kernel_rfl) (by kernel_rfl) (by kernel_rfl) (fun _ _ _ h => h) (Or.inl ⟨by rfl, ?_⟩) (by assumption) ?_
    rotate_left
    · intro w hSw; (try dsimp only at hSw); go_simp; try with_reducible rfl
    simp only [Act.put, List.setIfInBounds_toArray, List.set_cons_zero, List.set_cons_succ]
    refine wpAnyH_take (i := 39) (oi := ⟨some 175, _, _, _, _, _⟩) (v := ?_) rfl (by kernel_rfl) (by kernel_rfl) (by kernel_rfl) (fun _ _ _ h => h) (Or.inl ⟨by rfl, ?_⟩) (by assumption) ?_
    rotate_left
    · intro w hSw; (try dsimp only at hSw); go_simp; try with_reducible rfl
    simp only [Act.put, List.setIfInBounds_toArray, List.set_cons_zero, List.set_cons_succ]
    refine wpAnyH_take (i := 40) (oi := ⟨some 176, _, _, _, _, _⟩) (v := ?_) rfl (by kernel_rfl) (by kernel_rfl) (by kernel_rfl) (fun _ _ _ h => h) (Or.inl ⟨by rfl, ?_⟩) (by assumption) ?_
    rotate_left
    · intro w hSw; (try dsimp only at hSw); go_simp; try with_reducible rfl
    simp only [Act.put, List.setIfInBounds_toArray, List.set_cons_zero, List.set_cons_succ]
    refine wpAnyH_ready (rs := [41]) (by kernel_rfl) (by simp) ?_
    refine AllReadyH.cons (o := ⟨some 177, _, _, _, _, _⟩) rfl (fun K hK => ?_) AllReadyH.nil
    go_simp
    (with_reducible refine (less_n (.slice aa ak ac) (.slice ba bk bc) X Y 18 18 _ (Held.big (KH.out _ hHeld) (.slice aa ak ac) (X) 18 (List.Mem.tail _ (List.Mem.tail _ (List.Mem.tail _ (List.Mem.tail _ (List.Mem.tail _ (List.Mem.tail _ (List.Mem.tail _ (List.Mem.tail _ (List.Mem.tail _ (List.Mem.tail _ (List.Mem.tail _ (List.Mem.tail _ (List.Mem.tail _ (List.Mem.tail _ (List.Mem.tail _ (List.Mem.tail _ (List.Mem.tail _ (List.Mem.tail _ (List.Mem.tail _ (List.Mem.head _))))))))))))))))))))) (Held.big (KH.out _ hHeld) (.slice ba bk bc) (Y) 18 (List.Mem.tail _ (List.Mem.tail _ (List.Mem.tail _ (List.Mem.tail _ (List.Mem.tail _ (List.Mem.tail _ (List.Mem.tail _ (List.Mem.tail _ (List.Mem.tail _ (List.Mem.tail _ (List.Mem.tail _ (List.Mem.tail _ (List.Mem.tail _ (List.Mem.tail _ (List.Mem.tail _ (List.Mem.tail _ (List.Mem.tail _ (List.Mem.head _))))))))))))))))))) (by omega) HLE.out).mono ?_)
    rw [HD.out]
    rintro e w' ⟨la, lk, lc, rfl, NL, -, hb⟩
    go_wp2_with fail
    refine hK.out _ _ ?_ (fun hNew => ?_)
    · exact KS.out _ (Held.below (KH.out _ hHeld) hb)
    clear hK K hHeld
    clear hb
    have hHeld := hNew
    clear hNew
    try simp only [Act.put, List.setIfInBounds_toArray, List.set_cons_zero, List.set_cons_succ]
    refine wpAnyH_ready (rs := [42]) (by kernel_rfl) (by simp) ?_
    refine AllReadyH.cons (o := ⟨some 178, _, _, _, _, _⟩) rfl (fun K hK => ?_) AllReadyH.nil
    go_simp
    (with_reducible refine (is_true dh dl la lk lc D 18 _ (by omega) (by omega) (by omega) (by omega) NL (by omega) ED.out).mono ?_)
    rintro e w' ⟨rfl, hb⟩
    go_wp2_with fail
    refine hK.out _ _ ?_ (fun hNew => ?_)
    · exact KS.out _ (Held.below (KH.out _ hHeld) hb)
    clear hK K hHeld
    clear hb
    have hHeld := hNew
    clear hNew
    try simp only [Act.put, List.setIfInBounds_toArray, List.set_cons_zero, List.set_cons_succ]
    refine wpAnyH_take (i := 43) (oi := ⟨some 179, _, _, _, _, _⟩) (v := ?_) rfl (by kernel_rfl) (by kernel_rfl) (by kernel_rfl) (fun _ _ _ h => h) (Or.inl ⟨by rfl, ?_⟩) (by assumption) ?_
    rotate_left
    · intro w hSw; (try dsimp only at hSw); go_simp; try with_reducible rfl
    simp only [Act.put, List.setIfInBounds_toArray, List.set_cons_zero, List.set_cons_succ]
    refine wpAnyH_take (i := 44) (oi := ⟨some 180, _, _, _, _, _⟩) (v := ?_) rfl (by kernel_rfl) (by kernel_rfl) (by kernel_rfl) (fun _ _ _ h => h) (Or.inl ⟨by rfl, ?_⟩) (by assumption) ?_
    rotate_left
    · intro w hSw; (try dsimp only at hSw); go_simp; try with_reducible rfl
    simp only [Act.put, List.setIfInBounds_toArray, List.set_cons_zero, List.set_cons_succ]
    refine wpAnyH_take (i := 45) (oi := ⟨some 181, _, _, _, _, _⟩) (v := undef) rfl (by kernel_rfl) (by kernel_rfl) (by kernel_rfl) (fun _ _ _ h => h) (Or.inr ⟨by rfl, rfl⟩) (by assumption) ?_
    simp only [Act.put, List.setIfInBounds_toArray, List.set_cons_zero, List.set_cons_succ]
    refine wpAnyH_take (i := 46) (oi := ⟨some 182, _, _, _, _, _⟩) (v := undef) rfl (by kernel_rfl) (by kernel_rfl) (by kernel_rfl) (fun _ _ _ h => h) (Or.inr ⟨by rfl, rfl⟩) (by assumption) ?_
    simp only [Act.put, List.setIfInBounds_toArray, List.set_cons_zero, List.set_cons_succ]
    refine wpAnyH_take (i := 47) (oi := ⟨some 183, _, _, _, _, _⟩) (v := undef) rfl (by kernel_rfl) (by kernel_rfl) (by kernel_rfl) (fun _ _ _ h => h) (Or.inr ⟨by rfl, rfl⟩) (by assumption) ?_
    simp only [Act.put, List.setIfInBounds_toArray, List.set_cons_zero, List.set_cons_succ]
    refine wpAnyH_take (i := 48) (oi := ⟨some 184, _, _, _, _, _⟩) (v := undef) rfl (by kernel_rfl) (by kernel_rfl) (by kernel_rfl) (fun _ _ _ h => h) (Or.inr ⟨by rfl, rfl⟩) (by assumption) ?_
    simp only [Act.put, List.setIfInBounds_toArray, List.set_cons_zero, List.set_cons_succ]
    refine wpAnyH_take (i := 49) (oi := ⟨some 185, _, _, _, _, _⟩) (v := undef) rfl (by kernel_rfl) (by kernel_rfl) (by kernel_rfl) (fun _ _ _ h => h) (Or.inr ⟨by rfl, rfl⟩) (by assumption) ?_
    simp only [Act.put, List.setIfInBounds_toArray, List.set_cons_zero, List.set_cons_succ]
    refine wpAnyH_take (i := 50) (oi := ⟨some 186, _, _, _, _, _⟩) (v := undef) rfl (by kernel_rfl) (by kernel_rfl) (by kernel_rfl) (fun _ _ _ h => h) (Or.inr ⟨by rfl, rfl⟩) (by assumption) ?_
    simp only [Act.put, List.setIfInBounds_toArray, List.set_cons_zero, List.set_cons_succ]
    refine wpAnyH_take (i := 51) (oi := ⟨some 187, _, _, _, _, _⟩) (v := undef) rfl (by kernel_rfl) (by kernel_rfl) (by kernel_rfl) (fun _ _ _ h => h) (Or.inr ⟨by rfl, rfl⟩) (by assumption) ?_
    simp only [Act.put, List.setIfInBounds_toArray, List.set_cons_zero, List.set_cons_succ]
    refine wpAnyH_take (i := 52) (oi := ⟨some 188, _, _, _, _, _⟩) (v := ?_) rfl (by kernel_rfl) (by kernel_rfl) (by kernel_rfl) (fun _ _ _ h => h) (Or.inl ⟨by rfl, ?_⟩) (by assumption) ?_
    rotate_left
    · intro w hSw; (try dsimp only at hSw); go_simp; try with_reducible rfl
    simp only [Act.put, List.setIfInBounds_toArray, List.set_cons_zero, List.set_cons_succ]
    refine wpAnyH_take (i := 53) (oi := ⟨some 189, _, _, _, _, _⟩) (v := ?_) rfl (by kernel_rfl) (by kernel_rfl) (by kernel_rfl) (fun _ _ _ h => h) (Or.inl ⟨by rfl, ?_⟩) (by assumption) ?_
    rotate_left
    · intro w hSw; (try dsimp only at hSw); go_simp; try with_reducible rfl
    simp only [Act.put, List.setIfInBounds_toArray, List.set_cons_zero, List.set_cons_succ]
    refine wpAnyH_take (i := 54) (oi := ⟨some 6, _, _, _, _, _⟩) (v := ?_) rfl (by kernel_rfl) (by kernel_rfl) (by kernel_rfl) (fun _ _ _ h => h) (Or.inl ⟨by rfl, ?_⟩) (by assumption) ?_
    rotate_left
    · intro w hSw; (try dsimp only at hSw); go_simp; try with_reducible rfl
    simp only [Act.put, List.setIfInBounds_toArray, List.set_cons_zero, List.set_cons_succ]
    refine wpAnyH_done (by kernel_rfl) ?_ _
    have H := KH.out _ hHeld
    clear KS KH hHeld
    go_wp2
    go_ret
    exact ⟨rfl, H.old⟩
  · have ES := Lib.hid hS; clear hS
    clear hbS; subst hbs
    go_wp2_with fail
    replace H := (H.box2 (.int .u64 0) (.int .u64 0) 24)
    have KS : Hid (∀ w' : World, Held w [.cell (wz.heap.size) 0 (.int .u64 0), .cell (wz.heap.size) 1 (.int .u64 0), .cell (w10.heap.size) 0 (.slice qa qk qc), .num (.slice qa qk qc) (Q) 19, .cell (w9.heap.size) 0 (.slice pa pk pc), .num (.slice pa pk pc) (P) 24, .cell (w8.heap.size) 0 (.int .u64 0), .cell (w8.heap.size) 1 (.int .u64 0), .cell (w7.heap.size) 0 (.int .u64 sh), .cell (w7.heap.size) 1 (.int .u64 sl), .cell (w6.heap.size) 0 (.int .u64 0), .cell (w6.heap.size) 1 (.int .u64 0), .cell (w5.heap.size) 0 (.slice ma mk mc), .num (.slice ma mk mc) (T) 23, .cell (w4.heap.size) 0 (.slice ca ck cc), .num (.slice ca ck cc) (n) 5, .cell (w3.heap.size) 0 (.slice ba bk bc), .num (.slice ba bk bc) (Y) 18, .cell (w2.heap.size) 0 (.slice aa ak ac), .num (.slice aa ak ac) (X) 18, .cell (w.heap.size + 1) 0 (.int .u64 yh), .cell (w.heap.size + 1) 1 (.int .u64 yl), .cell (w.heap.size) 0 (.int .u64 xh), .cell (w.heap.size) 1 (.int .u64 xl)] w' → w'.cell? ⟨w6.heap.size, 0, none⟩ = some (.int .u64 0) ∧ w'.cell? ⟨w6.heap.size, 1, none⟩ = some (.int .u64 0) ∧ w'.cell? ⟨w9.heap.size, 0, none⟩ = some (.slice pa pk pc) ∧ w'.cell? ⟨w7.heap.size, 0, none⟩ = some (.int .u64 sh) ∧ w'.cell? ⟨w7.heap.size, 1, none⟩ = some (.int .u64 sl) ∧ w'.cell? ⟨w10.heap.size, 0, none⟩ = some (.slice qa qk qc) ∧ w'.cell? ⟨w8.heap.size, 0, none⟩ = some (.int .u64 0) ∧ w'.cell? ⟨w8.heap.size, 1, none⟩ = some (.int .u64 0) ∧ w'.cell? ⟨w2.heap.size, 0, none⟩ = some (.slice aa ak ac) ∧ w'.cell? ⟨w3.heap.size, 0, none⟩ = some (.slice ba bk bc) ∧ w'.cell? ⟨wz.heap.size, 0, none⟩ = some (.int .u64 0) ∧ w'.cell? ⟨wz.heap.size, 1, none⟩ = some (.int .u64 0) ∧ Held w [.cell (wz.heap.size) 0 (.int .u64 0), .cell (wz.heap.size) 1 (.int .u64 0), .cell (w10.heap.size) 0 (.slice qa qk qc), .num (.slice qa qk qc) (Q) 19, .cell (w9.heap.size) 0 (.slice pa pk pc), .num (.slice pa pk pc) (P) 24, .cell (w8.heap.size) 0 (.int .u64 0), .cell (w8.heap.size) 1 (.int .u64 0), .cell (w7.heap.size) 0 (.int .u64 sh), .cell (w7.heap.size) 1 (.int .u64 sl), .cell (w6.heap.size) 0 (.int .u64 0), .cell (w6.heap.size) 1 (.int .u64 0), .cell (w5.heap.size) 0 (.slice ma mk mc), .num (.slice ma mk mc) (T) 23, .cell (w4.heap.size) 0 (.slice ca ck cc), .num (.slice ca ck cc) (n) 5, .cell (w3.heap.size) 0 (.slice ba bk bc), .num (.slice ba bk bc) (Y) 18, .cell (w2.heap.size) 0 (.slice aa ak ac), .num (.slice aa ak ac) (X) 18, .cell (w.heap.size + 1) 0 (.int .u64 yh), .cell (w.heap.size + 1) 1 (.int .u64 yl), .cell (w.heap.size) 0 (.int .u64 xh), .cell (w.heap.size) 1 (.int .u64 xl)] w') := Lib.hid (fun _ h => ⟨h.cell (w6.heap.size) 0 (.int .u64 0) (List.Mem.tail _ (List.Mem.tail _ (List.Mem.tail _ (List.Mem.tail _ (List.Mem.tail _ (List.Mem.tail _ (List.Mem.tail _ (List.Mem.tail _ (List.Mem.tail _ (List.Mem.tail _ (List.Mem.head _))))))))))), h.cell (w6.heap.size) 1 (.int .u64 0) (List.Mem.tail _ (List.Mem.tail _ (List.Mem.tail _ (List.Mem.tail _ (List.Mem.tail _ (List.Mem.tail _ (List.Mem.tail _ (List.Mem.tail _ (List.Mem.tail _ (List.Mem.tail _ (List.Mem.tail _ (List.Mem.head _)))))))))))), h.cell (w9.heap.size) 0 (.slice pa pk pc) (List.Mem.tail _ (List.Mem.tail _ (List.Mem.tail _ (List.Mem.tail _ (List.Mem.head _))))), h.cell (w7.heap.size) 0 (.int .u64 sh) (List.Mem.tail _ (List.Mem.tail _ (List.Mem.tail _ (List.Mem.tail _ (List.Mem.tail _ (List.Mem.tail _ (List.Mem.tail _ (List.Mem.tail _ (List.Mem.head _))))))))), h.cell (w7.heap.size) 1 (.int .u64 sl) (List.Mem.tail _ (List.Mem.tail _ (List.Mem.tail _ (List.Mem.tail _ (List.Mem.tail _ (List.Mem.tail _ (List.Mem.tail _ (List.Mem.tail _ (List.Mem.tail _ (List.Mem.head _)))))))))), h.cell (w10.heap.size) 0 (.slice qa qk qc) (List.Mem.tail _ (List.Mem.tail _ (List.Mem.head _))), h.cell (w8.heap.size) 0 (.int .u64 0) (List.Mem.tail _ (List.Mem.tail _ (List.Mem.tail _ (List.Mem.tail _ (List.Mem.tail _ (List.Mem.tail _ (List.Mem.head _))))))), h.cell (w8.heap.size) 1 (.int .u64 0) (List.Mem.tail _ (List.Mem.tail _ (List.Mem.tail _ (List.Mem.tail _ (List.Mem.tail _ (List.Mem.tail _ (List.Mem.tail _ (List.Mem.head _)))))))), h.cell (w2.heap.size) 0 (.slice aa ak ac) (List.Mem.tail _ (List.Mem.tail _ (List.Mem.tail _ (List.Mem.tail _ (List.Mem.tail _ (List.Mem.tail _ (List.Mem.tail _ (List.Mem.tail _ (List.Mem.tail _ (List.Mem.tail _ (List.Mem.tail _ (List.Mem.tail _ (List.Mem.tail _ (List.Mem.tail _ (List.Mem.tail _ (List.Mem.tail _ (List.Mem.tail _ (List.Mem.tail _ (List.Mem.head _))))))))))))))))))), h.cell (w3.heap.size) 0 (.slice ba bk bc) (List.Mem.tail _ (List.Mem.tail _ (List.Mem.tail _ (List.Mem.tail _ (List.Mem.tail _ (List.Mem.tail _ (List.Mem.tail _ (List.Mem.tail _ (List.Mem.tail _ (List.Mem.tail _ (List.Mem.tail _ (List.Mem.tail _ (List.Mem.tail _ (List.Mem.tail _ (List.Mem.tail _ (List.Mem.tail _ (List.Mem.head _))))))))))))))))), h.cell (wz.heap.size) 0 (.int .u64 0) (List.Mem.head _), h.cell (wz.heap.size) 1 (.int .u64 0) (List.Mem.tail _ (List.Mem.head _)), h⟩)
    have KH : Hid (∀ w' : World, w'.cell? ⟨w6.heap.size, 0, none⟩ = some (.int .u64 0) ∧ w'.cell? ⟨w6.heap.size, 1, none⟩ = some (.int .u64 0) ∧ w'.cell? ⟨w9.heap.size, 0, none⟩ = some (.slice pa pk pc) ∧ w'.cell? ⟨w7.heap.size, 0, none⟩ = some (.int .u64 sh) ∧ w'.cell? ⟨w7.heap.size, 1, none⟩ = some (.int .u64 sl) ∧ w'.cell? ⟨w10.heap.size, 0, none⟩ = some (.slice qa qk qc) ∧ w'.cell? ⟨w8.heap.size, 0, none⟩ = some (.int .u64 0) ∧ w'.cell? ⟨w8.heap.size, 1, none⟩ = some (.int .u64 0) ∧ w'.cell? ⟨w2.heap.size, 0, none⟩ = some (.slice aa ak ac) ∧ w'.cell? ⟨w3.heap.size, 0, none⟩ = some (.slice ba bk bc) ∧ w'.cell? ⟨wz.heap.size, 0, none⟩ = some (.int .u64 0) ∧ w'.cell? ⟨wz.heap.size, 1, none⟩ = some (.int .u64 0) ∧ Held w [.cell (wz.heap.size) 0 (.int .u64 0), .cell (wz.heap.size) 1 (.int .u64 0), .cell (w10.heap.size) 0 (.slice qa qk qc), .num (.slice qa qk qc) (Q) 19, .cell (w9.heap.size) 0 (.slice pa pk pc), .num (.slice pa pk pc) (P) 24, .cell (w8.heap.size) 0 (.int .u64 0), .cell (w8.heap.size) 1 (.int .u64 0), .cell (w7.heap.size) 0 (.int .u64 sh), .cell (w7.heap.size) 1 (.int .u64 sl), .cell (w6.heap.size) 0 (.int .u64 0), .cell (w6.heap.size) 1 (.int .u64 0), .cell (w5.heap.size) 0 (.slice ma mk mc), .num (.slice ma mk mc) (T) 23, .cell (w4.heap.size) 0 (.slice ca ck cc), .num (.slice ca ck cc) (n) 5, .cell (w3.heap.size) 0 (.slice ba bk bc), .num (.slice ba bk bc) (Y) 18, .cell (w2.heap.size) 0 (.slice aa ak ac), .num (.slice aa ak ac) (X) 18, .cell (w.heap.size + 1) 0 (.int .u64 yh), .cell (w.heap.size + 1) 1 (.int .u64 yl), .cell (w.heap.size) 0 (.int .u64 xh), .cell (w.heap.size) 1 (.int .u64 xl)] w' → Held w [.cell (wz.heap.size) 0 (.int .u64 0), .cell (wz.heap.size) 1 (.int .u64 0), .cell (w10.heap.size) 0 (.slice qa qk qc), .num (.slice qa qk qc) (Q) 19, .cell (w9.heap.size) 0 (.slice pa pk pc), .num (.slice pa pk pc) (P) 24, .cell (w8.heap.size) 0 (.int .u64 0), .cell (w8.heap.size) 1 (.int .u64 0), .cell (w7.heap.size) 0 (.int .u64 sh), .cell (w7.heap.size) 1 (.int .u64 sl), .cell (w6.heap.size) 0 (.int .u64 0), .cell (w6.heap.size) 1 (.int .u64 0), .cell (w5.heap.size) 0 (.slice ma mk mc), .num (.slice ma mk mc) (T) 23, .cell (w4.heap.size) 0 (.slice ca ck cc), .num (.slice ca ck cc) (n) 5, .cell (w3.heap.size) 0 (.slice ba bk bc), .num (.slice ba bk bc) (Y) 18, .cell (w2.heap.size) 0 (.slice aa ak ac), .num (.slice aa ak ac) (X) 18, .cell (w.heap.size + 1) 0 (.int .u64 yh), .cell (w.heap.size + 1) 1 (.int .u64 yl), .cell (w.heap.size) 0 (.int .u64 xh), .cell (w.heap.size) 1 (.int .u64 xl)] w') := Lib.hid (fun _ h => h.2.2.2.2.2.2.2.2.2.2.2.2)
    refine wp_region_held_drew (S := fun w' => w'.cell? ⟨w6.heap.size, 0, none⟩ = some (.int .u64 0) ∧ w'.cell? ⟨w6.heap.size, 1, none⟩ = some (.int .u64 0) ∧ w'.cell? ⟨w9.heap.size, 0, none⟩ = some (.slice pa pk pc) ∧ w'.cell? ⟨w7.heap.size, 0, none⟩ = some (.int .u64 sh) ∧ w'.cell? ⟨w7.heap.size, 1, none⟩ = some (.int .u64 sl) ∧ w'.cell? ⟨w10.heap.size, 0, none⟩ = some (.slice qa qk qc) ∧ w'.cell? ⟨w8.heap.size, 0, none⟩ = some (.int .u64 0) ∧ w'.cell? ⟨w8.heap.size, 1, none⟩ = some (.int .u64 0) ∧ w'.cell? ⟨w2.heap.size, 0, none⟩ = some (.slice aa ak ac) ∧ w'.cell? ⟨w3.heap.size, 0, none⟩ = some (.slice ba bk bc) ∧ w'.cell? ⟨wz.heap.size, 0, none⟩ = some (.int .u64 0) ∧ w'.cell? ⟨wz.heap.size, 1, none⟩ = some (.int .u64 0) ∧ Held w [.cell (wz.heap.size) 0 (.int .u64 0), .cell (wz.heap.size) 1 (.int .u64 0), .cell (w10.heap.size) 0 (.slice qa qk qc), .num (.slice qa qk qc) (Q) 19, .cell (w9.heap.size) 0 (.slice pa pk pc), .num (.slice pa pk pc) (P) 24, .cell (w8.heap.size) 0 (.int .u64 0), .cell (w8.heap.size) 1 (.int .u64 0), .cell (w7.heap.size) 0 (.int .u64 sh), .cell (w7.heap.size) 1 (.int .u64 sl), .cell (w6.heap.size) 0 (.int .u64 0), .cell (w6.heap.size) 1 (.int .u64 0), .cell (w5.heap.size) 0 (.slice ma mk mc), .num (.slice ma mk mc) (T) 23, .cell (w4.heap.size) 0 (.slice ca ck cc), .num (.slice ca ck cc) (n) 5, .cell (w3.heap.size) 0 (.slice ba bk bc), .num (.slice ba bk bc) (Y) 18, .cell (w2.heap.size) 0 (.slice aa ak ac), .num (.slice aa ak ac) (X) 18, .cell (w.heap.size + 1) 0 (.int .u64 yh), .cell (w.heap.size + 1) 1 (.int .u64 yl), .cell (w.heap.size) 0 (.int .u64 xh), .cell (w.heap.size) 1 (.int .u64 xl)] w') (by kernel_rfl) (KS.out _ H.drew) (fun hHeld => ?_)
    clear H
    refine wpAnyH_take (i := 0) (oi := ⟨some 136, _, _, _, _, _⟩) (v := ?_) rfl (by kernel_rfl) (by kernel_rfl) (by kernel_rfl) (fun _ _ _ h => h) (Or.inl ⟨by rfl, ?_⟩) (by assumption) ?_
    rotate_left
    · intro w hSw; (try dsimp only at hSw); go_simp; try with_reducible rfl
    simp only [Act.put, List.setIfInBounds_toArray, List.set_cons_zero, List.set_cons_succ]
    refine wpAnyH_take (i := 1) (oi := ⟨some 137, _, _, _, _, _⟩) (v := ?_) rfl (by kernel_rfl) (by kernel_rfl) (by kernel_rfl) (fun _ _ _ h => h) (Or.inl ⟨by rfl, ?_⟩) (by assumption) ?_
    rotate_left
    · intro w hSw; (try dsimp only at hSw); go_simp; try with_reducible rfl
    simp only [Act.put, List.setIfInBounds_toArray, List.set_cons_zero, List.set_cons_succ]
    refine wpAnyH_take (i := 2) (oi := ⟨some 138, _, _, _, _, _⟩) (v := ?_) rfl (by kernel_rfl) (by kernel_rfl) (by kernel_rfl) (fun _ _ _ h => h) (Or.inl ⟨by rfl, ?_⟩) (by assumption) ?_
    rotate_left
    · intro w hSw; (try dsimp only at hSw); go_simp; try with_reducible rfl
    simp only [Act.put, List.setIfInBounds_toArray, List.set_cons_zero, List.set_cons_succ]
    refine wpAnyH_take (i := 3) (oi := ⟨some 139, _, _, _, _, _⟩) (v := ?_) rfl (by kernel_rfl) (by kernel_rfl) (by kernel_rfl) (fun _ _ _ h => h) (Or.inl ⟨by rfl, ?_⟩) (by assumption) ?_
    rotate_left
    · intro w hSw; (try dsimp only at hSw); go_simp; try with_reducible rfl
    simp only [Act.put, List.setIfInBounds_toArray, List.set_cons_zero, List.set_cons_succ]
    refine wpAnyH_take (i := 4) (oi := ⟨some 140, _, _, _, _, _⟩) (v := undef) rfl (by kernel_rfl) (by kernel_rfl) (by kernel_rfl) (fun _ _ _ h => h) (Or.inr ⟨by rfl, rfl⟩) (by assumption) ?_
    simp only [Act.put, List.setIfInBounds_toArray, List.set_cons_zero, List.set_cons_succ]
    refine wpAnyH_take (i := 5) (oi := ⟨some 141, _, _, _, _, _⟩) (v := undef) rfl (by kernel_rfl) (by kernel_rfl) (by kernel_rfl) (fun _ _ _ h => h) (Or.inr ⟨by rfl, rfl⟩) (by assumption) ?_
    simp only [Act.put, List.setIfInBounds_toArray, List.set_cons_zero, List.set_cons_succ]
    refine wpAnyH_take (i := 6) (oi := ⟨some 142, _, _, _, _, _⟩) (v := undef) rfl (by kernel_rfl) (by kernel_rfl) (by kernel_rfl) (fun _ _ _ h => h) (Or.inr ⟨by rfl, rfl⟩) (by assumption) ?_
    simp only [Act.put, List.setIfInBounds_toArray, List.set_cons_zero, List.set_cons_succ]
    refine wpAnyH_take (i := 7) (oi := ⟨some 143, _, _, _, _, _⟩) (v := ?_) rfl (by kernel_rfl) (by kernel_rfl) (by kernel_rfl) (fun _ _ _ h => h) (Or.inl ⟨by rfl, ?_⟩) (by assumption) ?_
    rotate_left
    · intro w hSw; (try dsimp only at hSw); go_simp; try with_reducible rfl
    simp only [Act.put, List.setIfInBounds_toArray, List.set_cons_zero, List.set_cons_succ]
    refine wpAnyH_take (i := 8) (oi := ⟨some 144, _, _, _, _, _⟩) (v := ?_) rfl (by kernel_rfl) (by kernel_rfl) (by kernel_rfl) (fun _ _ _ h => h) (Or.inl ⟨by rfl, ?_⟩) (by assumption) ?_
    rotate_left
    · intro w hSw; (try dsimp only at hSw); go_simp; try with_reducible rfl
    simp only [Act.put, List.setIfInBounds_toArray, List.set_cons_zero, List.set_cons_succ]
    refine wpAnyH_take (i := 9) (oi := ⟨some 145, _, _, _, _, _⟩) (v := ?_) rfl (by kernel_rfl) (by kernel_rfl) (by kernel_rfl) (fun _ _ _ h => h) (Or.inl ⟨by rfl, ?_⟩) (by assumption) ?_
    rotate_left
    · intro w hSw; (try dsimp only at hSw); go_simp; try with_reducible rfl
    simp only [Act.put, List.setIfInBounds_toArray, List.set_cons_zero, List.set_cons_succ]
    refine wpAnyH_take (i := 10) (oi := ⟨some 146, _, _, _, _, _⟩) (v := ?_) rfl (by kernel_rfl) (by kernel_rfl) (by kernel_rfl) (fun _ _ _ h => h) (Or.inl ⟨by rfl, ?_⟩) (by assumption) ?_
    rotate_left
    · intro w hSw; (try dsimp only at hSw); go_simp; try with_reducible rfl
    simp only [Act.put, List.setIfInBounds_toArray, List.set_cons_zero, List.set_cons_succ]
    refine wpAnyH_take (i := 11) (oi := ⟨some 147, _, _, _, _, _⟩) (v := ?_) rfl (by kernel_rfl) (by kernel_rfl) (by kernel_rfl) (fun _ _ _ h => h) (Or.inl ⟨by rfl, ?_⟩) (by assumption) ?_
    rotate_left
    · intro w hSw; (try dsimp only at hSw); go_simp; try with_reducible rfl
    simp only [Act.put, List.setIfInBounds_toArray, List.set_cons_zero, List.set_cons_succ]
    refine wpAnyH_take (i := 12) (oi := ⟨some 148, _, _, _, _, _⟩) (v := ?_) rfl (by kernel_rfl) (by kernel_rfl) (by kernel_rfl) (fun _ _ _ h => h) (Or.inl ⟨by rfl, ?_⟩) (by assumption) ?_
    rotate_left
    · intro w hSw; (try dsimp only at hSw); go_simp; try with_reducible rfl
    simp only [Act.put, List.setIfInBounds_toArray, List.set_cons_zero, List.set_cons_succ]
    refine wpAnyH_take (i := 13) (oi := ⟨some 149, _, _, _, _, _⟩) (v := ?_) rfl (by kernel_rfl) (by kernel_rfl) (by kernel_rfl) (fun _ _ _ h => h) (Or.inl ⟨by rfl, ?_⟩) (by assumption) ?_
    rotate_left
    · intro w hSw; (try dsimp only at hSw); go_simp; try with_reducible rfl
    simp only [Act.put, List.setIfInBounds_toArray, List.set_cons_zero, List.set_cons_succ]
    refine wpAnyH_take (i := 14) (oi := ⟨some 150, _, _, _, _, _⟩) (v := ?_) rfl (by kernel_rfl) (by kernel_rfl) (by kernel_rfl) (fun _ _ _ h => h) (Or.inl ⟨by rfl, ?_⟩) (by assumption) ?_
    rotate_left
    · intro w hSw; (try dsimp only at hSw); go_simp; try with_reducible rfl
    simp only [Act.put, List.setIfInBounds_toArray, List.set_cons_zero, List.set_cons_succ]
    refine wpAnyH_take (i := 15) (oi := ⟨some 151, _, _, _, _, _⟩) (v := ?_) rfl (by kernel_rfl) (by kernel_rfl) (by kernel_rfl) (fun _ _ _ h => h) (Or.inl ⟨by rfl, ?_⟩) (by assumption) ?_
    rotate_left
    · intro w hSw; (try dsimp only at hSw); go_simp; try with_reducible rfl
    simp only [Act.put, List.setIfInBounds_toArray, List.set_cons_zero, List.set_cons_succ]
    refine wpAnyH_take (i := 16) (oi := ⟨some 152, _, _, _, _, _⟩) (v := ?_) rfl (by kernel_rfl) (by kernel_rfl) (by kernel_rfl) (fun _ _ _ h => h) (Or.inl ⟨by rfl, ?_⟩) (by assumption) ?_
    rotate_left
    · intro w hSw; (try dsimp only at hSw); go_simp; try with_reducible rfl
    simp only [Act.put, List.setIfInBounds_toArray, List.set_cons_zero, List.set_cons_succ]
    refine wpAnyH_take (i := 17) (oi := ⟨some 153, _, _, _, _, _⟩) (v := ?_) rfl (by kernel_rfl) (by kernel_rfl) (by kernel_rfl) (fun _ _ _ h => h) (Or.inl ⟨by rfl, ?_⟩) (by assumption) ?_
    rotate_left
    · intro w hSw; (try dsimp only at hSw); go_simp; try with_reducible rfl
    simp only [Act.put, List.setIfInBounds_toArray, List.set_cons_zero, List.set_cons_succ]
    refine wpAnyH_take (i := 18) (oi := ⟨some 154, _, _, _, _, _⟩) (v := ?_) rfl (by kernel_rfl) (by kernel_rfl) (by kernel_rfl) (fun _ _ _ h => h) (Or.inl ⟨by rfl, ?_⟩) (by assumption) ?_
    rotate_left
    · intro w hSw; (try dsimp only at hSw); go_simp; try with_reducible rfl
    simp only [Act.put, List.setIfInBounds_toArray, List.set_cons_zero, List.set_cons_succ]
    refine wpAnyH_take (i := 19) (oi := ⟨some 155, _, _, _, _, _⟩) (v := ?_) rfl (by kernel_rfl) (by kernel_rfl) (by kernel_rfl) (fun _ _ _ h => h) (Or.inl ⟨by rfl, ?_⟩) (by assumption) ?_
    rotate_left
    · intro w hSw; (try dsimp only at hSw); go_simp; try with_reducible rfl
    simp only [Act.put, List.setIfInBounds_toArray, List.set_cons_zero, List.set_cons_succ]
    refine wpAnyH_take (i := 20) (oi := ⟨some 156, _, _, _, _, _⟩) (v := ?_) rfl (by kernel_rfl) (by kernel_rfl) (by kernel_rfl) (fun _ _ _ h => h) (Or.inl ⟨by rfl, ?_⟩) (by assumption) ?_
    rotate_left
    · intro w hSw; (try dsimp only at hSw); go_simp; try with_reducible rfl
    simp only [Act.put, List.setIfInBounds_toArray, List.set_cons_zero, List.set_cons_succ]
    refine wpAnyH_take (i := 21) (oi := ⟨some 157, _, _, _, _, _⟩) (v := ?_) rfl (by kernel_rfl) (by kernel_rfl) (by kernel_rfl) (fun _ _ _ h => h) (Or.inl ⟨by rfl, ?_⟩) (by assumption) ?_
    rotate_left
    · intro w hSw; (try dsimp only at hSw); go_simp; try with_reducible rfl
    simp only [Act.put, List.setIfInBounds_toArray, List.set_cons_zero, List.set_cons_succ]
    refine wpAnyH_take (i := 22) (oi := ⟨some 158, _, _, _, _, _⟩) (v := ?_) rfl (by kernel_rfl) (by kernel_rfl) (by kernel_rfl) (fun _ _ _ h => h) (Or.inl ⟨by rfl, ?_⟩) (by assumption) ?_
    rotate_left
    · intro w hSw; (try dsimp only at hSw); go_simp; try with_reducible rfl
    simp only [Act.put, List.setIfInBounds_toArray, List.set_cons_zero, List.set_cons_succ]
    refine wpAnyH_ready (rs := [23]) (by kernel_rfl) (by simp) ?_
    refine AllReadyH.cons (o := ⟨some 159, _, _, _, _, _⟩) rfl (fun K hK => ?_) AllReadyH.nil
    go_simp
    (with_reducible refine (is_true sh sl qa qk qc Q 19 _ (by omega) (by omega) (by omega) (by omega) (Held.big (KH.out _ hHeld) (.slice qa qk qc) (Q) 19 (List.Mem.tail _ (List.Mem.tail _ (List.Mem.tail _ (List.Mem.head _))))) (by omega) ES.out).mono ?_)
    rintro e w' ⟨rfl, hb⟩
    go_wp2_with fail
    refine hK.out _ _ ?_ (fun hNew => ?_)
    · exact KS.out _ (Held.below (KH.out _ hHeld) hb)
    clear hK K hHeld
    clear hb
    have hHeld := hNew
    clear hNew
    try simp only [Act.put, List.setIfInBounds_toArray, List.set_cons_zero, List.set_cons_succ]
    refine wpAnyH_take (i := 24) (oi := ⟨some 160, _, _, _, _, _⟩) (v := ?_) rfl (by kernel_rfl) (by kernel_rfl) (by kernel_rfl) (fun _ _ _ h => h) (Or.inl ⟨by rfl, ?_⟩) (by assumption) ?_
    rotate_left
    · intro w hSw; (try dsimp only at hSw); go_simp; try with_reducible rfl
    simp only [Act.put, List.setIfInBounds_toArray, List.set_cons_zero, List.set_cons_succ]
    refine wpAnyH_take (i := 25) (oi := ⟨some 161, _, _, _, _, _⟩) (v := ?_) rfl (by kernel_rfl) (by kernel_rfl) (by kernel_rfl) (fun _ _ _ h => h) (Or.inl ⟨by rfl, ?_⟩) (by assumption) ?_
    rotate_left
    · intro w hSw; (try dsimp only at hSw); go_simp; try with_reducible rfl
    simp only [Act.put, List.setIfInBounds_toArray, List.set_cons_zero, List.set_cons_succ]
    refine wpAnyH_take (i := 26) (oi := ⟨some 162, _, _, _, _, _⟩) (v := undef) rfl (by kernel_rfl) (by kernel_rfl) (by kernel_rfl) (fun _ _ _ h => h) (Or.inr ⟨by rfl, rfl⟩) (by assumption) ?_
    simp only [Act.put, List.setIfInBounds_toArray, List.set_cons_zero, List.set_cons_succ]
    refine wpAnyH_take (i := 27) (oi := ⟨some 163, _, _, _, _, _⟩) (v := undef) rfl (by kernel_rfl) (by kernel_rfl) (by kernel_rfl) (fun _ _ _ h => h) (Or.inr ⟨by rfl, rfl⟩) (by assumption) ?_
    simp only [Act.put, List.setIfInBounds_toArray, List.set_cons_zero, List.set_cons_succ]
    refine wpAnyH_take (i := 28) (oi := ⟨some 164, _, _, _, _, _⟩) (v := undef) rfl (by kernel_rfl) (by kernel_rfl) (by kernel_rfl) (fun _ _ _ h => h) (Or.inr ⟨by rfl, rfl⟩) (by assumption) ?_
    simp only [Act.put, List.setIfInBounds_toArray, List.set_cons_zero, List.set_cons_succ]
    refine wpAnyH_take (i := 29) (oi := ⟨some 165, _, _, _, _, _⟩) (v := undef) rfl (by kernel_rfl) (by kernel_rfl) (by kernel_rfl) (fun _ _ _ h => h) (Or.inr ⟨by rfl, rfl⟩) (by assumption) ?_
    simp only [Act.put, List.setIfInBounds_toArray, List.set_cons_zero, List.set_cons_succ]
    refine wpAnyH_take (i := 30) (oi := ⟨some 166, _, _, _, _, _⟩) (v := undef) rfl (by kernel_rfl) (by kernel_rfl) (by kernel_rfl) (fun _ _ _ h => h) (Or.inr ⟨by rfl, rfl⟩) (by assumption) ?_
    simp only [Act.put, List.setIfInBounds_toArray, List.set_cons_zero, List.set_cons_succ]
    refine wpAnyH_take (i := 31) (oi := ⟨some 167, _, _, _, _, _⟩) (v := undef) rfl (by kernel_rfl) (by kernel_rfl) (by kernel_rfl) (fun _ _ _ h => h) (Or.inr ⟨by rfl, rfl⟩) (by assumption) ?_
    simp only [Act.put, List.setIfInBounds_toArray, List.set_cons_zero, List.set_cons_succ]
    refine wpAnyH_take (i := 32) (oi := ⟨some 168, _, _, _, _, _⟩) (v := undef) rfl (by kernel_rfl) (by kernel_rfl) (by kernel_rfl) (fun _ _ _ h => h) (Or.inr ⟨by rfl, rfl⟩) (by assumption) ?_
    simp only [Act.put, List.setIfInBounds_toArray, List.set_cons_zero, List.set_cons_succ]
    refine wpAnyH_take (i := 33) (oi := ⟨some 169, _, _, _, _, _⟩) (v := ?_) rfl (by kernel_rfl) (by kernel_rfl) (by kernel_rfl) (fun _ _ _ h => h) (Or.inl ⟨by rfl, ?_⟩) (by assumption) ?_
    rotate_left
    · intro w hSw; (try dsimp only at hSw); go_simp; try with_reducible rfl
    simp only [Act.put, List.setIfInBounds_toArray, List.set_cons_zero, List.set_cons_succ]
    refine wpAnyH_take (i := 34) (oi := ⟨some 170, _, _, _, _, _⟩) (v := ?_) rfl (by kernel_rfl) (by kernel_rfl) (by kernel_rfl) (fun _ _ _ h => h) (Or.inl ⟨by rfl, ?_⟩) (by assumption) ?_
    rotate_left
    · intro w hSw; (try dsimp only at hSw); go_simp; try with_reducible rfl
    simp only [Act.put, List.setIfInBounds_toArray, List.set_cons_zero, List.set_cons_succ]
    refine wpAnyH_take (i := 35) (oi := ⟨some 171, _, _, _, _, _⟩) (v := ?_) rfl (by kernel_rfl) (by kernel_rfl) (by kernel_rfl) (fun _ _ _ h => h) (Or.inl ⟨by rfl, ?_⟩) (by assumption) ?_
    rotate_left
    · intro w hSw; (try dsimp only at hSw); go_simp; try with_reducible rfl
    simp only [Act.put, List.setIfInBounds_toArray, List.set_cons_zero, List.set_cons_succ]
    refine wpAnyH_take (i := 36) (oi := ⟨some 172, _, _, _, _, _⟩) (v := ?_) rfl (by kernel_rfl) (by kernel_rfl) (by kernel_rfl) (fun _ _ _ h => h) (Or.inl ⟨by rfl, ?_⟩) (by assumption) ?_
    rotate_left
    · intro w hSw; (try dsimp only at hSw); go_simp; try with_reducible rfl
    simp only [Act.put, List.setIfInBounds_toArray, List.set_cons_zero, List.set_cons_succ]
    refine wpAnyH_take (i := 37) (oi := ⟨some 173, _, _, _, _, _⟩) (v := ?_) rfl (by kernel_rfl) (by kernel_rfl) (by kernel_rfl) (fun _ _ _ h => h) (Or.inl ⟨by rfl, ?_⟩) (by assumption) ?_
    rotate_left
    · intro w hSw; (try dsimp only at hSw); go_simp; try with_reducible rfl
    simp only [Act.put, List.setIfInBounds_toArray, List.set_cons_zero, List.set_cons_succ]
    refine wpAnyH_take (i := 38) (oi := ⟨some 174, _, _, _, _, _⟩) (v := undef) rfl (by kernel_rfl) (by kernel_rfl) (by kernel_rfl) (fun _ _ _ h => h) (Or.inr ⟨by rfl, rfl⟩) (by assumption) ?_
    simp only [Act.put, List.setIfInBounds_toArray, List.set_cons_zero, List.set_cons_succ]
    refine wpAnyH_take (i := 39) (oi := ⟨some 175, _, _, _, _, _⟩) (v := undef) rfl (by kernel_rfl) (by kernel_rfl) (by kernel_rfl) (fun _ _ _ h => h) (Or.inr ⟨by rfl, rfl⟩) (by assumption) ?_
    simp only [Act.put, List.setIfInBounds_toArray, List.set_cons_zero, List.set_cons_succ]
    refine wpAnyH_take (i := 40) (oi := ⟨some 176, _, _, _, _, _⟩) (v := undef) rfl (by kernel_rfl) (by kernel_rfl) (by kernel_rfl) (fun _ _ _ h => h) (Or.inr ⟨by rfl, rfl⟩) (by assumption) ?_
    simp only [Act.put, List.setIfInBounds_toArray, List.set_cons_zero, List.set_cons_succ]
    refine wpAnyH_take (i := 41) (oi := ⟨some 177, _, _, _, _, _⟩) (v := undef) rfl (by kernel_rfl) (by kernel_rfl) (by kernel_rfl) (fun _ _ _ h => h) (Or.inr ⟨by rfl, rfl⟩) (by assumption) ?_
    simp only [Act.put, List.setIfInBounds_toArray, List.set_cons_zero, List.set_cons_succ]
    refine wpAnyH_take (i := 42) (oi := ⟨some 178, _, _, _, _, _⟩) (v := undef) rfl (by kernel_rfl) (by kernel_rfl) (by kernel_rfl) (fun _ _ _ h => h) (Or.inr ⟨by rfl, rfl⟩) (by assumption) ?_
    simp only [Act.put, List.setIfInBounds_toArray, List.set_cons_zero, List.set_cons_succ]
    refine wpAnyH_take (i := 43) (oi := ⟨some 179, _, _, _, _, _⟩) (v := ?_) rfl (by kernel_rfl) (by kernel_rfl) (by kernel_rfl) (fun _ _ _ h => h) (Or.inl ⟨by rfl, ?_⟩) (by assumption) ?_
    rotate_left
    · intro w hSw; (try dsimp only at hSw); go_simp; try with_reducible rfl
    simp only [Act.put, List.setIfInBounds_toArray, List.set_cons_zero, List.set_cons_succ]
    refine wpAnyH_take (i := 44) (oi := ⟨some 180, _, _, _, _, _⟩) (v := ?_) rfl (by kernel_rfl) (by kernel_rfl) (by kernel_rfl) (fun _ _ _ h => h) (Or.inl ⟨by rfl, ?_⟩) (by assumption) ?_
    rotate_left
    · intro w hSw; (try dsimp only at hSw); go_simp; try with_reducible rfl
    simp only [Act.put, List.setIfInBounds_toArray, List.set_cons_zero, List.set_cons_succ]
    refine wpAnyH_take (i := 45) (oi := ⟨some 181, _, _, _, _, _⟩) (v := ?_) rfl (by kernel_rfl) (by kernel_rfl) (by kernel_rfl) (fun _ _ _ h => h) (Or.inl ⟨by rfl, ?_⟩) (by assumption) ?_
    rotate_left
    · intro w hSw; (try dsimp only at hSw); go_simp; try with_reducible rfl
    simp only [Act.put, List.setIfInBounds_toArray, List.set_cons_zero, List.set_cons_succ]
    refine wpAnyH_take (i := 46) (oi := ⟨some 182, _, _, _, _, _⟩) (v := ?_) rfl (by kernel_rfl) (by kernel_rfl) (by kernel_rfl) (fun _ _ _ h => h) (Or.inl ⟨by rfl, ?_⟩) (by assumption) ?_
    rotate_left
    · intro w hSw; (try dsimp only at hSw); go_simp; try with_reducible rfl
    simp only [Act.put, List.setIfInBounds_toArray, List.set_cons_zero, List.set_cons_succ]
    refine wpAnyH_take (i := 47) (oi := ⟨some 183, _, _, _, _, _⟩) (v := ?_) rfl (by kernel_rfl) (by kernel_rfl) (by kernel_rfl) (fun _ _ _ h => h) (Or.inl ⟨by rfl, ?_⟩) (by assumption) ?_
    rotate_left
    · intro w hSw; (try dsimp only at hSw); go_simp; try with_reducible rfl
    simp only [Act.put, List.setIfInBounds_toArray, List.set_cons_zero, List.set_cons_succ]
    refine wpAnyH_take (i := 48) (oi := ⟨some 184, _, _, _, _, _⟩) (v := ?_) rfl (by kernel_rfl) (by kernel_rfl) (by kernel_rfl) (fun _ _ _ h => h) (Or.inl ⟨by rfl, ?_⟩) (by assumption) ?_
    rotate_left
    · intro w hSw; (try dsimp only at hSw); go_simp; try with_reducible rfl
    simp only [Act.put, List.setIfInBounds_toArray, List.set_cons_zero, List.set_cons_succ]
    refine wpAnyH_take (i := 49) (oi := ⟨some 185, _, _, _, _, _⟩) (v := ?_) rfl (by kernel_rfl) (by kernel_rfl) (by kernel_rfl) (fun _ _ _ h => h) (Or.inl ⟨by rfl, ?_⟩) (by assumption) ?_
    rotate_left
    · intro w hSw; (try dsimp only at hSw); go_simp; try with_reducible rfl
    simp only [Act.put, List.setIfInBounds_toArray, List.set_cons_zero, List.set_cons_succ]
    refine wpAnyH_take (i := 50) (oi := ⟨some 186, _, _, _, _, _⟩) (v := ?_) rfl (by kernel_rfl) (by kernel_rfl) (by kernel_rfl) (fun _ _ _ h => h) (Or.inl ⟨by rfl, ?_⟩) (by assumption) ?_
    rotate_left
    · intro w hSw; (try dsimp only at hSw); go_simp; try with_reducible rfl
    simp only [Act.put, List.setIfInBounds_toArray, List.set_cons_zero, List.set_cons_succ]
    refine wpAnyH_take (i := 51) (oi := ⟨some 187, _, _, _, _, _⟩) (v := ?_) rfl (by kernel_rfl) (by kernel_rfl) (by kernel_rfl) (fun _ _ _ h => h) (Or.inl ⟨by rfl, ?_⟩) (by assumption) ?_
    rotate_left
    · intro w hSw; (try dsimp only at hSw); go_simp; try with_reducible rfl
    simp only [Act.put, List.setIfInBounds_toArray, List.set_cons_zero, List.set_cons_succ]
    refine wpAnyH_take (i := 52) (oi := ⟨some 188, _, _, _, _, _⟩) (v := ?_) rfl (by kernel_rfl) (by kernel_rfl) (by kernel_rfl) (fun _ _ _ h => h) (Or.inl ⟨by rfl, ?_⟩) (by assumption) ?_
    rotate_left
    · intro w hSw; (try dsimp only at hSw); go_simp; try with_reducible rfl
    simp only [Act.put, List.setIfInBounds_toArray, List.set_cons_zero, List.set_cons_succ]
    refine wpAnyH_take (i := 53) (oi := ⟨some 189, _, _, _, _, _⟩) (v := ?_) rfl (by kernel_rfl) (by kernel_rfl) (by kernel_rfl) (fun _ _ _ h => h) (Or.inl ⟨by rfl, ?_⟩) (by assumption) ?_
    rotate_left
    · intro w hSw; (try dsimp only at hSw); go_simp; try with_reducible rfl
    simp only [Act.put, List.setIfInBounds_toArray, List.set_cons_zero, List.set_cons_succ]
    refine wpAnyH_take (i := 54) (oi := ⟨some 6, _, _, _, _, _⟩) (v := ?_) rfl (by kernel_rfl) (by kernel_rfl) (by kernel_rfl) (fun _ _ _ h => h) (Or.inl ⟨by rfl, ?_⟩) (by assumption) ?_
    rotate_left
    · intro w hSw; (try dsimp only at hSw); go_simp; try with_reducible rfl
    simp only [Act.put, List.setIfInBounds_toArray, List.set_cons_zero, List.set_cons_succ]
    refine wpAnyH_done (by kernel_rfl) ?_ _
    have H := KH.out _ hHeld
    clear KS KH hHeld
    go_wp2
    go_ret
    exact ⟨rfl, H.old⟩
  · have ED := Lib.hid hD; clear hD
    have HLE : Hid (Y ≤ X) := Lib.hid (of_decide_eq_true (hbS.out.trans hbs))
    clear hbS; subst hbs
    go_wp2_with fail
    replace H := (H.box2 (.int .u64 0) (.int .u64 0) 24)
    have KS : Hid (∀ w' : World, Held w [.cell (wz.heap.size) 0 (.int .u64 0), .cell (wz.heap.size) 1 (.int .u64 0), .cell (w10.heap.size) 0 (.slice qa qk qc), .num (.slice qa qk qc) (Q) 19, .cell (w9.heap.size) 0 (.slice pa pk pc), .num (.slice pa pk pc) (P) 24, .cell (w8.heap.size) 0 (.int .u64 dh), .cell (w8.heap.size) 1 (.int .u64 dl), .cell (w7.heap.size) 0 (.int .u64 0), .cell (w7.heap.size) 1 (.int .u64 0), .cell (w6.heap.size) 0 (.int .u64 0), .cell (w6.heap.size) 1 (.int .u64 0), .cell (w5.heap.size) 0 (.slice ma mk mc), .num (.slice ma mk mc) (T) 23, .cell (w4.heap.size) 0 (.slice ca ck cc), .num (.slice ca ck cc) (n) 5, .cell (w3.heap.size) 0 (.slice ba bk bc), .num (.slice ba bk bc) (Y) 18, .cell (w2.heap.size) 0 (.slice aa ak ac), .num (.slice aa ak ac) (X) 18, .cell (w.heap.size + 1) 0 (.int .u64 yh), .cell (w.heap.size + 1) 1 (.int .u64 yl), .cell (w.heap.size) 0 (.int .u64 xh), .cell (w.heap.size) 1 (.int .u64 xl)] w' → w'.cell? ⟨w6.heap.size, 0, none⟩ = some (.int .u64 0) ∧ w'.cell? ⟨w6.heap.size, 1, none⟩ = some (.int .u64 0) ∧ w'.cell? ⟨w9.heap.size, 0, none⟩ = some (.slice pa pk pc) ∧ w'.cell? ⟨w7.heap.size, 0, none⟩ = some (.int .u64 0) ∧ w'.cell? ⟨w7.heap.size, 1, none⟩ = some (.int .u64 0) ∧ w'.cell? ⟨w10.heap.size, 0, none⟩ = some (.slice qa qk qc) ∧ w'.cell? ⟨w8.heap.size, 0, none⟩ = some (.int .u64 dh) ∧ w'.cell? ⟨w8.heap.size, 1, none⟩ = some (.int .u64 dl) ∧ w'.cell? ⟨w2.heap.size, 0, none⟩ = some (.slice aa ak ac) ∧ w'.cell? ⟨w3.heap.size, 0, none⟩ = some (.slice ba bk bc) ∧ w'.cell? ⟨wz.heap.size, 0, none⟩ = some (.int .u64 0) ∧ w'.cell? ⟨wz.heap.size, 1, none⟩ = some (.int .u64 0) ∧ Held w [.cell (wz.heap.size) 0 (.int .u64 0), .cell (wz.heap.size) 1 (.int .u64 0), .cell (w10.heap.size) 0 (.slice qa qk qc), .num (.slice qa qk qc) (Q) 19, .cell (w9.heap.size) 0 (.slice pa pk pc), .num (.slice pa pk pc) (P) 24, .cell (w8.heap.size) 0 (.int .u64 dh), .cell (w8.heap.size) 1 (.int .u64 dl), .cell (w7.heap.size) 0 (.int .u64 0), .cell (w7.heap.size) 1 (.int .u64 0), .cell (w6.heap.size) 0 (.int .u64 0), .cell (w6.heap.size) 1 (.int .u64 0), .cell (w5.heap.size) 0 (.slice ma mk mc), .num (.slice ma mk mc) (T) 23, .cell (w4.heap.size) 0 (.slice ca ck cc), .num (.slice ca ck cc) (n) 5, .cell (w3.heap.size) 0 (.slice ba bk bc), .num (.slice ba bk bc) (Y) 18, .cell (w2.heap.size) 0 (.slice aa ak ac), .num (.slice aa ak ac) (X) 18, .cell (w.heap.size + 1) 0 (.int .u64 yh), .cell (w.heap.size + 1) 1 (.int .u64 yl), .cell (w.heap.size) 0 (.int .u64 xh), .cell (w.heap.size) 1 (.int .u64 xl)] w') := Lib.hid (fun _ h => ⟨h.cell (w6.heap.size) 0 (.int .u64 0) (List.Mem.tail _ (List.Mem.tail _ (List.Mem.tail _ (List.Mem.tail _ (List.Mem.tail _ (List.Mem.tail _ (List.Mem.tail _ (List.Mem.tail _ (List.Mem.tail _ (List.Mem.tail _ (List.Mem.head _))))))))))), h.cell (w6.heap.size) 1 (.int .u64 0) (List.Mem.tail _ (List.Mem.tail _ (List.Mem.tail _ (List.Mem.tail _ (List.Mem.tail _ (List.Mem.tail _ (List.Mem.tail _ (List.Mem.tail _ (List.Mem.tail _ (List.Mem.tail _ (List.Mem.tail _ (List.Mem.head _)))))))))))), h.cell (w9.heap.size) 0 (.slice pa pk pc) (List.Mem.tail _ (List.Mem.tail _ (List.Mem.tail _ (List.Mem.tail _ (List.Mem.head _))))), h.cell (w7.heap.size) 0 (.int .u64 0) (List.Mem.tail _ (List.Mem.tail _ (List.Mem.tail _ (List.Mem.tail _ (List.Mem.tail _ (List.Mem.tail _ (List.Mem.tail _ (List.Mem.tail _ (List.Mem.head _))))))))), h.cell (w7.heap.size) 1 (.int .u64 0) (List.Mem.tail _ (List.Mem.tail _ (List.Mem.tail _ (List.Mem.tail _ (List.Mem.tail _ (List.Mem.tail _ (List.Mem.tail _ (List.Mem.tail _ (List.Mem.tail _ (List.Mem.head _)))))))))), h.cell (w10.heap.size) 0 (.slice qa qk qc) (List.Mem.tail _ (List.Mem.tail _ (List.Mem.head _))), h.cell (w8.heap.size) 0 (.int .u64 dh) (List.Mem.tail _ (List.Mem.tail _ (List.Mem.tail _ (List.Mem.tail _ (List.Mem.tail _ (List.Mem.tail _ (List.Mem.head _))))))), h.cell (w8.heap.size) 1 (.int .u64 dl) (List.Mem.tail _ (List.Mem.tail _ (List.Mem.tail _ (List.Mem.tail _ (List.Mem.tail _ (List.Mem.tail _ (List.Mem.tail _ (List.Mem.head _)))))))), h.cell (w2.heap.size) 0 (.slice aa ak ac) (List.Mem.tail _ (List.Mem.tail _ (List.Mem.tail _ (List.Mem.tail _ (List.Mem.tail _ (List.Mem.tail _ (List.Mem.tail _ (List.Mem.tail _ (List.Mem.tail _ (List.Mem.tail _ (List.Mem.tail _ (List.Mem.tail _ (List.Mem.tail _ (List.Mem.tail _ (List.Mem.tail _ (List.Mem.tail _ (List.Mem.tail _ (List.Mem.tail _ (List.Mem.head _))))))))))))))))))), h.cell (w3.heap.size) 0 (.slice ba bk bc) (List.Mem.tail _ (List.Mem.tail _ (List.Mem.tail _ (List.Mem.tail _ (List.Mem.tail _ (List.Mem.tail _ (List.Mem.tail _ (List.Mem.tail _ (List.Mem.tail _ (List.Mem.tail _ (List.Mem.tail _ (List.Mem.tail _ (List.Mem.tail _ (List.Mem.tail _ (List.Mem.tail _ (List.Mem.tail _ (List.Mem.head _))))))))))))))))), h.cell (wz.heap.size) 0 (.int .u64 0) (List.Mem.head _), h.cell (wz.heap.size) 1 (.int .u64 0) (List.Mem.tail _ (List.Mem.head _)), h⟩)
    have KH : Hid (∀ w' : World, w'.cell? ⟨w6.heap.size, 0, none⟩ = some (.int .u64 0) ∧ w'.cell? ⟨w6.heap.size, 1, none⟩ = some (.int .u64 0) ∧ w'.cell? ⟨w9.heap.size, 0, none⟩ = some (.slice pa pk pc) ∧ w'.cell? ⟨w7.heap.size, 0, none⟩ = some (.int .u64 0) ∧ w'.cell? ⟨w7.heap.size, 1, none⟩ = some (.int .u64 0) ∧ w'.cell? ⟨w10.heap.size, 0, none⟩ = some (.slice qa qk qc) ∧ w'.cell? ⟨w8.heap.size, 0, none⟩ = some (.int .u64 dh) ∧ w'.cell? ⟨w8.heap.size, 1, none⟩ = some (.int .u64 dl) ∧ w'.cell? ⟨w2.heap.size, 0, none⟩ = some (.slice aa ak ac) ∧ w'.cell? ⟨w3.heap.size, 0, none⟩ = some (.slice ba bk bc) ∧ w'.cell? ⟨wz.heap.size, 0, none⟩ = some (.int .u64 0) ∧ w'.cell? ⟨wz.heap.size, 1, none⟩ = some (.int .u64 0) ∧ Held w [.cell (wz.heap.size) 0 (.int .u64 0), .cell (wz.heap.size) 1 (.int .u64 0), .cell (w10.heap.size) 0 (.slice qa qk qc), .num (.slice qa qk qc) (Q) 19, .cell (w9.heap.size) 0 (.slice pa pk pc), .num (.slice pa pk pc) (P) 24, .cell (w8.heap.size) 0 (.int .u64 dh), .cell (w8.heap.size) 1 (.int .u64 dl), .cell (w7.heap.size) 0 (.int .u64 0), .cell (w7.heap.size) 1 (.int .u64 0), .cell (w6.heap.size) 0 (.int .u64 0), .cell (w6.heap.size) 1 (.int .u64 0), .cell (w5.heap.size) 0 (.slice ma mk mc), .num (.slice ma mk mc) (T) 23, .cell (w4.heap.size) 0 (.slice ca ck cc), .num (.slice ca ck cc) (n) 5, .cell (w3.heap.size) 0 (.slice ba bk bc), .num (.slice ba bk bc) (Y) 18, .cell (w2.heap.size) 0 (.slice aa ak ac), .num (.slice aa ak ac) (X) 18, .cell (w.heap.size + 1) 0 (.int .u64 yh), .cell (w.heap.size + 1) 1 (.int .u64 yl), .cell (w.heap.size) 0 (.int .u64 xh), .cell (w.heap.size) 1 (.int .u64 xl)] w' → Held w [.cell (wz.heap.size) 0 (.int .u64 0), .cell (wz.heap.size) 1 (.int .u64 0), .cell (w10.heap.size) 0 (.slice qa qk qc), .num (.slice qa qk qc) (Q) 19, .cell (w9.heap.size) 0 (.slice pa pk pc), .num (.slice pa pk pc) (P) 24, .cell (w8.heap.size) 0 (.int .u64 dh), .cell (w8.heap.size) 1 (.int .u64 dl), .cell (w7.heap.size) 0 (.int .u64 0), .cell (w7.heap.size) 1 (.int .u64 0), .cell (w6.heap.size) 0 (.int .u64 0), .cell (w6.heap.size) 1 (.int .u64 0), .cell (w5.heap.size) 0 (.slice ma mk mc), .num (.slice ma mk mc) (T) 23, .cell (w4.heap.size) 0 (.slice ca ck cc), .num (.slice ca ck cc) (n) 5, .cell (w3.heap.size) 0 (.slice ba bk bc), .num (.slice ba bk bc) (Y) 18, .cell (w2.heap.size) 0 (.slice aa ak ac), .num (.slice aa ak ac) (X) 18, .cell (w.heap.size + 1) 0 (.int .u64 yh), .cell (w.heap.size + 1) 1 (.int .u64 yl), .cell (w.heap.size) 0 (.int .u64 xh), .cell (w.heap.size) 1 (.int .u64 xl)] w') := Lib.hid (fun _ h => h.2.2.2.2.2.2.2.2.2.2.2.2)
    refine wp_region_held_drew (S := fun w' => w'.cell? ⟨w6.heap.size, 0, none⟩ = some (.int .u64 0) ∧ w'.cell? ⟨w6.heap.size, 1, none⟩ = some (.int .u64 0) ∧ w'.cell? ⟨w9.heap.size, 0, none⟩ = some (.slice pa pk pc) ∧ w'.cell? ⟨w7.heap.size, 0, none⟩ = some (.int .u64 0) ∧ w'.cell? ⟨w7.heap.size, 1, none⟩ = some (.int .u64 0) ∧ w'.cell? ⟨w10.heap.size, 0, none⟩ = some (.slice qa qk qc) ∧ w'.cell? ⟨w8.heap.size, 0, none⟩ = some (.int .u64 dh) ∧ w'.cell? ⟨w8.heap.size, 1, none⟩ = some (.int .u64 dl) ∧ w'.cell? ⟨w2.heap.size, 0, none⟩ = some (.slice aa ak ac) ∧ w'.cell? ⟨w3.heap.size, 0, none⟩ = some (.slice ba bk bc) ∧ w'.cell? ⟨wz.heap.size, 0, none⟩ = some (.int .u64 0) ∧ w'.cell? ⟨wz.heap.size, 1, none⟩ = some (.int .u64 0) ∧ Held w [.cell (wz.heap.size) 0 (.int .u64 0), .cell (wz.heap.size) 1 (.int .u64 0), .cell (w10.heap.size) 0 (.slice qa qk qc), .num (.slice qa qk qc) (Q) 19, .cell (w9.heap.size) 0 (.slice pa pk pc), .num (.slice pa pk pc) (P) 24, .cell (w8.heap.size) 0 (.int .u64 dh), .cell (w8.heap.size) 1 (.int .u64 dl), .cell (w7.heap.size) 0 (.int .u64 0), .cell (w7.heap.size) 1 (.int .u64 0), .cell (w6.heap.size) 0 (.int .u64 0), .cell (w6.heap.size) 1 (.int .u64 0), .cell (w5.heap.size) 0 (.slice ma mk mc), .num (.slice ma mk mc) (T) 23, .cell (w4.heap.size) 0 (.slice ca ck cc), .num (.slice ca ck cc) (n) 5, .cell (w3.heap.size) 0 (.slice ba bk bc), .num (.slice ba bk bc) (Y) 18, .cell (w2.heap.size) 0 (.slice aa ak ac), .num (.slice aa ak ac) (X) 18, .cell (w.heap.size + 1) 0 (.int .u64 yh), .cell (w.heap.size + 1) 1 (.int .u64 yl), .cell (w.heap.size) 0 (.int .u64 xh), .cell (w.heap.size) 1 (.int .u64 xl)] w') (by kernel_rfl) (KS.out _ H.drew) (fun hHeld => ?_)
    clear H
    refine wpAnyH_take (i := 0) (oi := ⟨some 136, _, _, _, _, _⟩) (v := ?_) rfl (by kernel_rfl) (by kernel_rfl) (by kernel_rfl) (fun _ _ _ h => h) (Or.inl ⟨by rfl, ?_⟩) (by assumption) ?_
    rotate_left
    · intro w hSw; (try dsimp only at hSw); go_simp; try with_reducible rfl
    simp only [Act.put, List.setIfInBounds_toArray, List.set_cons_zero, List.set_cons_succ]
    refine wpAnyH_take (i := 1) (oi := ⟨some 137, _, _, _, _, _⟩) (v := ?_) rfl (by kernel_rfl) (by kernel_rfl) (by kernel_rfl) (fun _ _ _ h => h) (Or.inl ⟨by rfl, ?_⟩) (by assumption) ?_
    rotate_left
    · intro w hSw; (try dsimp only at hSw); go_simp; try with_reducible rfl
    simp only [Act.put, List.setIfInBounds_toArray, List.set_cons_zero, List.set_cons_succ]
    refine wpAnyH_take (i := 2) (oi := ⟨some 138, _, _, _, _, _⟩) (v := ?_) rfl (by kernel_rfl) (by kernel_rfl) (by kernel_rfl) (fun _ _ _ h => h) (Or.inl ⟨by rfl, ?_⟩) (by assumption) ?_
    rotate_left
    · intro w hSw; (try dsimp only at hSw); go_simp; try with_reducible rfl
    simp only [Act.put, List.setIfInBounds_toArray, List.set_cons_zero, List.set_cons_succ]
    refine wpAnyH_take (i := 3) (oi := ⟨some 139, _, _, _, _, _⟩) (v := ?_) rfl (by kernel_rfl) (by kernel_rfl) (by kernel_rfl) (fun _ _ _ h => h) (Or.inl ⟨by rfl, ?_⟩) (by assumption) ?_
    rotate_left
    · intro w hSw; (try dsimp only at hSw); go_simp; try with_reducible rfl
    simp only [Act.put, List.setIfInBounds_toArray, List.set_cons_zero, List.set_cons_succ]
    refine wpAnyH_take (i := 4) (oi := ⟨some 140, _, _, _, _, _⟩) (v := undef) rfl (by kernel_rfl) (by kernel_rfl) (by kernel_rfl) (fun _ _ _ h => h) (Or.inr ⟨by rfl, rfl⟩) (by assumption) ?_
    simp only [Act.put, List.setIfInBounds_toArray, List.set_cons_zero, List.set_cons_succ]
    refine wpAnyH_take (i := 5) (oi := ⟨some 141, _, _, _, _, _⟩) (v := undef) rfl (by kernel_rfl) (by kernel_rfl) (by kernel_rfl) (fun _ _ _ h => h) (Or.inr ⟨by rfl, rfl⟩) (by assumption) ?_
    simp only [Act.put, List.setIfInBounds_toArray, List.set_cons_zero, List.set_cons_succ]
    refine wpAnyH_take (i := 6) (oi := ⟨some 142, _, _, _, _, _⟩) (v := undef) rfl (by kernel_rfl) (by kernel_rfl) (by kernel_rfl) (fun _ _ _ h => h) (Or.inr ⟨by rfl, rfl⟩) (by assumption) ?_
    simp only [Act.put, List.setIfInBounds_toArray, List.set_cons_zero, List.set_cons_succ]
    refine wpAnyH_take (i := 7) (oi := ⟨some 143, _, _, _, _, _⟩) (v := ?_) rfl (by kernel_rfl) (by kernel_rfl) (by kernel_rfl) (fun _ _ _ h => h) (Or.inl ⟨by rfl, ?_⟩) (by assumption) ?_
    rotate_left
    · intro w hSw; (try dsimp only at hSw); go_simp; try with_reducible rfl
    simp only [Act.put, List.setIfInBounds_toArray, List.set_cons_zero, List.set_cons_succ]
    refine wpAnyH_take (i := 8) (oi := ⟨some 144, _, _, _, _, _⟩) (v := ?_) rfl (by kernel_rfl) (by kernel_rfl) (by kernel_rfl) (fun _ _ _ h => h) (Or.inl ⟨by rfl, ?_⟩) (by assumption) ?_
    rotate_left
    · intro w hSw; (try dsimp only at hSw); go_simp; try with_reducible rfl
    simp only [Act.put, List.setIfInBounds_toArray, List.set_cons_zero, List.set_cons_succ]
    refine wpAnyH_take (i := 9) (oi := ⟨some 145, _, _, _, _, _⟩) (v := ?_) rfl (by kernel_rfl) (by kernel_rfl) (by kernel_rfl) (fun _ _ _ h => h) (Or.inl ⟨by rfl, ?_⟩) (by assumption) ?_
    rotate_left
    · intro w hSw; (try dsimp only at hSw); go_simp; try with_reducible rfl
    simp only [Act.put, List.setIfInBounds_toArray, List.set_cons_zero, List.set_cons_succ]
    refine wpAnyH_take (i := 10) (oi := ⟨some 146, _, _, _, _, _⟩) (v := ?_) rfl (by kernel_rfl) (by kernel_rfl) (by kernel_rfl) (fun _ _ _ h => h) (Or.inl ⟨by rfl, ?_⟩) (by assumption) ?_
    rotate_left
    · intro w hSw; (try dsimp only at hSw); go_simp; try with_reducible rfl
    simp only [Act.put, List.setIfInBounds_toArray, List.set_cons_zero, List.set_cons_succ]
    refine wpAnyH_take (i := 11) (oi := ⟨some 147, _, _, _, _, _⟩) (v := ?_) rfl (by kernel_rfl) (by kernel_rfl) (by kernel_rfl) (fun _ _ _ h => h) (Or.inl ⟨by rfl, ?_⟩) (by assumption) ?_
    rotate_left
    · intro w hSw; (try dsimp only at hSw); go_simp; try with_reducible rfl
    simp only [Act.put, List.setIfInBounds_toArray, List.set_cons_zero, List.set_cons_succ]
    refine wpAnyH_take (i := 12) (oi := ⟨some 148, _, _, _, _, _⟩) (v := ?_) rfl (by kernel_rfl) (by kernel_rfl) (by kernel_rfl) (fun _ _ _ h => h) (Or.inl ⟨by rfl, ?_⟩) (by assumption) ?_
    rotate_left
    · intro w hSw; (try dsimp only at hSw); go_simp; try with_reducible rfl
    simp only [Act.put, List.setIfInBounds_toArray, List.set_cons_zero, List.set_cons_succ]
    refine wpAnyH_take (i := 13) (oi := ⟨some 149, _, _, _, _, _⟩) (v := ?_) rfl (by kernel_rfl) (by kernel_rfl) (by kernel_rfl) (fun _ _ _ h => h) (Or.inl ⟨by rfl, ?_⟩) (by assumption) ?_
    rotate_left
    · intro w hSw; (try dsimp only at hSw); go_simp; try with_reducible rfl
    simp only [Act.put, List.setIfInBounds_toArray, List.set_cons_zero, List.set_cons_succ]
    refine wpAnyH_take (i := 14) (oi := ⟨some 150, _, _, _, _, _⟩) (v := ?_) rfl (by kernel_rfl) (by kernel_rfl) (by kernel_rfl) (fun _ _ _ h => h) (Or.inl ⟨by rfl, ?_⟩) (by assumption) ?_
    rotate_left
    · intro w hSw; (try dsimp only at hSw); go_simp; try with_reducible rfl
    simp only [Act.put, List.setIfInBounds_toArray, List.set_cons_zero, List.set_cons_succ]
    refine wpAnyH_take (i := 15) (oi := ⟨some 151, _, _, _, _, _⟩) (v := ?_) rfl (by kernel_rfl) (by kernel_rfl) (by kernel_rfl) (fun _ _ _ h => h) (Or.inl ⟨by rfl, ?_⟩) (by assumption) ?_
    rotate_left
    · intro w hSw; (try dsimp only at hSw); go_simp; try with_reducible rfl
    simp only [Act.put, List.setIfInBounds_toArray, List.set_cons_zero, List.set_cons_succ]
    refine wpAnyH_take (i := 16) (oi := ⟨some 152, _, _, _, _, _⟩) (v := ?_) rfl (by kernel_rfl) (by kernel_rfl) (by kernel_rfl) (fun _ _ _ h => h) (Or.inl ⟨by rfl, ?_⟩) (by assumption) ?_
    rotate_left
    · intro w hSw; (try dsimp only at hSw); go_simp; try with_reducible rfl
    simp only [Act.put, List.setIfInBounds_toArray, List.set_cons_zero, List.set_cons_succ]
    refine wpAnyH_take (i := 17) (oi := ⟨some 153, _, _, _, _, _⟩) (v := ?_) rfl (by kernel_rfl) (by kernel_rfl) (by kernel_rfl) (fun _ _ _ h => h) (Or.inl ⟨by rfl, ?_⟩) (by assumption) ?_
    rotate_left
    · intro w hSw; (try dsimp only at hSw); go_simp; try with_reducible rfl
    simp only [Act.put, List.setIfInBounds_toArray, List.set_cons_zero, List.set_cons_succ]
    refine wpAnyH_take (i := 18) (oi := ⟨some 154, _, _, _, _, _⟩) (v := ?_) rfl (by kernel_rfl) (by kernel_rfl) (by kernel_rfl) (fun _ _ _ h => h) (Or.inl ⟨by rfl, ?_⟩) (by assumption) ?_
    rotate_left
    · intro w hSw; (try dsimp only at hSw); go_simp; try with_reducible rfl
    simp only [Act.put, List.setIfInBounds_toArray, List.set_cons_zero, List.set_cons_succ]
    refine wpAnyH_take (i := 19) (oi := ⟨some 155, _, _, _, _, _⟩) (v := ?_) rfl (by kernel_rfl) (by kernel_rfl) (by kernel_rfl) (fun _ _ _ h => h) (Or.inl ⟨by rfl, ?_⟩) (by assumption) ?_
    rotate_left
    · intro w hSw; (try dsimp only at hSw); go_simp; try with_reducible rfl
    simp only [Act.put, List.setIfInBounds_toArray, List.set_cons_zero, List.set_cons_succ]
    refine wpAnyH_take (i := 20) (oi := ⟨some 156, _, _, _, _, _⟩) (v := ?_) rfl (by kernel_rfl) (by kernel_rfl) (by kernel_rfl) (fun _ _ _ h => h) (Or.inl ⟨by rfl, ?_⟩) (by assumption) ?_
    rotate_left
    · intro w hSw; (try dsimp only at hSw); go_simp; try with_reducible rfl
    simp only [Act.put, List.setIfInBounds_toArray, List.set_cons_zero, List.set_cons_succ]
    refine wpAnyH_take (i := 21) (oi := ⟨some 157, _, _, _, _, _⟩) (v := undef) rfl (by kernel_rfl) (by kernel_rfl) (by kernel_rfl) (fun _ _ _ h => h) (Or.inr ⟨by rfl, rfl⟩) (by assumption) ?_
    simp only [Act.put, List.setIfInBounds_toArray, List.set_cons_zero, List.set_cons_succ]
    refine wpAnyH_take (i := 22) (oi := ⟨some 158, _, _, _, _, _⟩) (v := undef) rfl (by kernel_rfl) (by kernel_rfl) (by kernel_rfl) (fun _ _ _ h => h) (Or.inr ⟨by rfl, rfl⟩) (by assumption) ?_
    simp only [Act.put, List.setIfInBounds_toArray, List.set_cons_zero, List.set_cons_succ]
    refine wpAnyH_take (i := 23) (oi := ⟨some 159, _, _, _, _, _⟩) (v := undef) rfl (by kernel_rfl) (by kernel_rfl) (by kernel_rfl) (fun _ _ _ h => h) (Or.inr ⟨by rfl, rfl⟩) (by assumption) ?_
    simp only [Act.put, List.setIfInBounds_toArray, List.set_cons_zero, List.set_cons_succ]
    refine wpAnyH_take (i := 24) (oi := ⟨some 160, _, _, _, _, _⟩) (v := ?_) rfl (by kernel_rfl) (by kernel_rfl) (by kernel_rfl) (fun _ _ _ h => h) (Or.inl ⟨by rfl, ?_⟩) (by assumption) ?_
    rotate_left
    · intro w hSw; (try dsimp only at hSw); go_simp; try with_reducible rfl
    simp only [Act.put, List.setIfInBounds_toArray, List.set_cons_zero, List.set_cons_succ]
    refine wpAnyH_take (i := 25) (oi := ⟨some 161, _, _, _, _, _⟩) (v := ?_) rfl (by kernel_rfl) (by kernel_rfl) (by kernel_rfl) (fun _ _ _ h => h) (Or.inl ⟨by rfl, ?_⟩) (by assumption) ?_
    rotate_left
    · intro w hSw; (try dsimp only at hSw); go_simp; try with_reducible rfl
    simp only [Act.put, List.setIfInBounds_toArray, List.set_cons_zero, List.set_cons_succ]
    refine wpAnyH_take (i := 26) (oi := ⟨some 162, _, _, _, _, _⟩) (v := ?_) rfl (by kernel_rfl) (by kernel_rfl) (by kernel_rfl) (fun _ _ _ h => h) (Or.inl ⟨by rfl, ?_⟩) (by assumption) ?_
    rotate_left
    · intro w hSw; (try dsimp only at hSw); go_simp; try with_reducible rfl
    simp only [Act.put, List.setIfInBounds_toArray, List.set_cons_zero, List.set_cons_succ]
    refine wpAnyH_take (i := 27) (oi := ⟨some 163, _, _, _, _, _⟩) (v := ?_) rfl (by kernel_rfl) (by kernel_rfl) (by kernel_rfl) (fun _ _ _ h => h) (Or.inl ⟨by rfl, ?_⟩) (by assumption) ?_
    rotate_left
    · intro w hSw; (try dsimp only at hSw); go_simp; try with_reducible rfl
    simp only [Act.put, List.setIfInBounds_toArray, List.set_cons_zero, List.set_cons_succ]
    refine wpAnyH_take (i := 28) (oi := ⟨some 164, _, _, _, _, _⟩) (v := ?_) rfl (by kernel_rfl) (by kernel_rfl) (by kernel_rfl) (fun _ _ _ h => h) (Or.inl ⟨by rfl, ?_⟩) (by assumption) ?_
    rotate_left
    · intro w hSw; (try dsimp only at hSw); go_simp; try with_reducible rfl
    simp only [Act.put, List.setIfInBounds_toArray, List.set_cons_zero, List.set_cons_succ]
    refine wpAnyH_take (i := 29) (oi := ⟨some 165, _, _, _, _, _⟩) (v := ?_) rfl (by kernel_rfl) (by kernel_rfl) (by kernel_rfl) (fun _ _ _ h => h) (Or.inl ⟨by rfl, ?_⟩) (by assumption) ?_
    rotate_left
    · intro w hSw; (try dsimp only at hSw); go_simp; try with_reducible rfl
    simp only [Act.put, List.setIfInBounds_toArray, List.set_cons_zero, List.set_cons_succ]
    refine wpAnyH_take (i := 30) (oi := ⟨some 166, _, _, _, _, _⟩) (v := ?_) rfl (by kernel_rfl) (by kernel_rfl) (by kernel_rfl) (fun _ _ _ h => h) (Or.inl ⟨by rfl, ?_⟩) (by assumption) ?_
    rotate_left
    · intro w hSw; (try dsimp only at hSw); go_simp; try with_reducible rfl
    simp only [Act.put, List.setIfInBounds_toArray, List.set_cons_zero, List.set_cons_succ]
    refine wpAnyH_take (i := 31) (oi := ⟨some 167, _, _, _, _, _⟩) (v := ?_) rfl (by kernel_rfl) (by kernel_rfl) (by kernel_rfl) (fun _ _ _ h => h) (Or.inl ⟨by rfl, ?_⟩) (by assumption) ?_
    rotate_left
    · intro w hSw; (try dsimp only at hSw); go_simp; try with_reducible rfl
    simp only [Act.put, List.setIfInBounds_toArray, List.set_cons_zero, List.set_cons_succ]
    refine wpAnyH_take (i := 32) (oi := ⟨some 168, _, _, _, _, _⟩) (v := ?_) rfl (by kernel_rfl) (by kernel_rfl) (by kernel_rfl) (fun _ _ _ h => h) (Or.inl ⟨by rfl, ?_⟩) (by assumption) ?_
    rotate_left
    · intro w hSw; (try dsimp only at hSw); go_simp; try with_reducible rfl
    simp only [Act.put, List.setIfInBounds_toArray, List.set_cons_zero, List.set_cons_succ]
    refine wpAnyH_take (i := 33) (oi := ⟨some 169, _, _, _, _, _⟩) (v := ?_) rfl (by kernel_rfl) (by kernel_rfl) (by kernel_rfl) (fun _ _ _ h => h) (Or.inl ⟨by rfl, ?_⟩) (by assumption) ?_
    rotate_left
    · intro w hSw; (try dsimp only at hSw); go_simp; try with_reducible rfl
    simp only [Act.put, List.setIfInBounds_toArray, List.set_cons_zero, List.set_cons_succ]
    refine wpAnyH_take (i := 34) (oi := ⟨some 170, _, _, _, _, _⟩) (v := ?_) rfl (by kernel_rfl) (by kernel_rfl) (by kernel_rfl) (fun _ _ _ h => h) (Or.inl ⟨by rfl, ?_⟩) (by assumption) ?_
    rotate_left
    · intro w hSw; (try dsimp only at hSw); go_simp; try with_reducible rfl
    simp only [Act.put, List.setIfInBounds_toArray, List.set_cons_zero, List.set_cons_succ]
    refine wpAnyH_take (i := 35) (oi := ⟨some 171, _, _, _, _, _⟩) (v := ?_) rfl (by kernel_rfl) (by kernel_rfl) (by kernel_rfl) (fun _ _ _ h => h) (Or.inl ⟨by rfl, ?_⟩) (by assumption) ?_
    rotate_left
    · intro w hSw; (try dsimp only at hSw); go_simp; try with_reducible rfl
    simp only [Act.put, List.setIfInBounds_toArray, List.set_cons_zero, List.set_cons_succ]
    refine wpAnyH_take (i := 36) (oi := ⟨some 172, _, _, _, _, _⟩) (v := ?_) rfl (by kernel_rfl) (by kernel_rfl) (by kernel_rfl) (fun _ _ _ h => h) (Or.inl ⟨by rfl, ?_⟩) (by assumption) ?_
    rotate_left
    · intro w hSw; (try dsimp only at hSw); go_simp; try with_reducible rfl
    simp only [Act.put, List.setIfInBounds_toArray, List.set_cons_zero, List.set_cons_succ]
    refine wpAnyH_take (i := 37) (oi := ⟨some 173, _, _, _, _, _⟩) (v := ?_) rfl (by kernel_rfl) (by kernel_rfl) (by kernel_rfl) (fun _ _ _ h => h) (Or.inl ⟨by rfl, ?_⟩) (by assumption) ?_
    rotate_left
    · intro w hSw; (try dsimp only at hSw); go_simp; try with_reducible rfl
    simp only [Act.put, List.setIfInBounds_toArray, List.set_cons_zero, List.set_cons_succ]
    refine wpAnyH_take (i := 38) (oi := ⟨some 174, _, _, _, _, _⟩) (v := ?_) rfl (by kernel_rfl) (by kernel_rfl) (by kernel_rfl) (fun _ _ _ h => h) (Or.inl ⟨by rfl, ?_⟩) (by assumption) ?_
    rotate_left
    · intro w hSw; (try dsimp only at hSw); go_simp; try with_reducible rfl
    simp only [Act.put, List.setIfInBounds_toArray, List.set_cons_zero, List.set_cons_succ]
    refine wpAnyH_take (i := 39) (oi := ⟨some 175, _, _, _, _, _⟩) (v := ?_) rfl (by kernel_rfl) (by kernel_rfl) (by kernel_rfl) (fun _ _ _ h => h) (Or.inl ⟨by rfl, ?_⟩) (by assumption) ?_
    rotate_left
    · intro w hSw; (try dsimp only at hSw); go_simp; try with_reducible rfl
    simp only [Act.put, List.setIfInBounds_toArray, List.set_cons_zero, List.set_cons_succ]
    refine wpAnyH_take (i := 40) (oi := ⟨some 176, _, _, _, _, _⟩) (v := ?_) rfl (by kernel_rfl) (by kernel_rfl) (by kernel_rfl) (fun _ _ _ h => h) (Or.inl ⟨by rfl, ?_⟩) (by assumption) ?_
    rotate_left
    · intro w hSw; (try dsimp only at hSw); go_simp; try with_reducible rfl
    simp only [Act.put, List.setIfInBounds_toArray, List.set_cons_zero, List.set_cons_succ]
    refine wpAnyH_ready (rs := [41]) (by kernel_rfl) (by simp) ?_
    refine AllReadyH.cons (o := ⟨some 177, _, _, _, _, _⟩) rfl (fun K hK => ?_) AllReadyH.nil
    go_simp
    (with_reducible refine (less_n (.slice aa ak ac) (.slice ba bk bc) X Y 18 18 _ (Held.big (KH.out _ hHeld) (.slice aa ak ac) (X) 18 (List.Mem.tail _ (List.Mem.tail _ (List.Mem.tail _ (List.Mem.tail _ (List.Mem.tail _ (List.Mem.tail _ (List.Mem.tail _ (List.Mem.tail _ (List.Mem.tail _ (List.Mem.tail _ (List.Mem.tail _ (List.Mem.tail _ (List.Mem.tail _ (List.Mem.tail _ (List.Mem.tail _ (List.Mem.tail _ (List.Mem.tail _ (List.Mem.tail _ (List.Mem.tail _ (List.Mem.head _))))))))))))))))))))) (Held.big (KH.out _ hHeld) (.slice ba bk bc) (Y) 18 (List.Mem.tail _ (List.Mem.tail _ (List.Mem.tail _ (List.Mem.tail _ (List.Mem.tail _ (List.Mem.tail _ (List.Mem.tail _ (List.Mem.tail _ (List.Mem.tail _ (List.Mem.tail _ (List.Mem.tail _ (List.Mem.tail _ (List.Mem.tail _ (List.Mem.tail _ (List.Mem.tail _ (List.Mem.tail _ (List.Mem.tail _ (List.Mem.head _))))))))))))))))))) (by omega) HLE.out).mono ?_)
    rw [HD.out]
    rintro e w' ⟨la, lk, lc, rfl, NL, -, hb⟩
    go_wp2_with fail
    refine hK.out _ _ ?_ (fun hNew => ?_)
    · exact KS.out _ (Held.below (KH.out _ hHeld) hb)
    clear hK K hHeld
    clear hb
    have hHeld := hNew
    clear hNew
    try simp only [Act.put, List.setIfInBounds_toArray, List.set_cons_zero, List.set_cons_succ]
    refine wpAnyH_ready (rs := [42]) (by kernel_rfl) (by simp) ?_
    refine AllReadyH.cons (o := ⟨some 178, _, _, _, _, _⟩) rfl (fun K hK => ?_) AllReadyH.nil
    go_simp
    (with_reducible refine (is_true dh dl la lk lc D 18 _ (by omega) (by omega) (by omega) (by omega) NL (by omega) ED.out).mono ?_)
    rintro e w' ⟨rfl, hb⟩
    go_wp2_with fail
    refine hK.out _ _ ?_ (fun hNew => ?_)
    · exact KS.out _ (Held.below (KH.out _ hHeld) hb)
    clear hK K hHeld
    clear hb
    have hHeld := hNew
    clear hNew
    try simp only [Act.put, List.setIfInBounds_toArray, List.set_cons_zero, List.set_cons_succ]
    refine wpAnyH_take (i := 43) (oi := ⟨some 179, _, _, _, _, _⟩) (v := ?_) rfl (by kernel_rfl) (by kernel_rfl) (by kernel_rfl) (fun _ _ _ h => h) (Or.inl ⟨by rfl, ?_⟩) (by assumption) ?_
    rotate_left
    · intro w hSw; (try dsimp only at hSw); go_simp; try with_reducible rfl
    simp only [Act.put, List.setIfInBounds_toArray, List.set_cons_zero, List.set_cons_succ]
    refine wpAnyH_take (i := 44) (oi := ⟨some 180, _, _, _, _, _⟩) (v := ?_) rfl (by kernel_rfl) (by kernel_rfl) (by kernel_rfl) (fun _ _ _ h => h) (Or.inl ⟨by rfl, ?_⟩) (by assumption) ?_
    rotate_left
    · intro w hSw; (try dsimp only at hSw); go_simp; try with_reducible rfl
    simp only [Act.put, List.setIfInBounds_toArray, List.set_cons_zero, List.set_cons_succ]
    refine wpAnyH_take (i := 45) (oi := ⟨some 181, _, _, _, _, _⟩) (v := undef) rfl (by kernel_rfl) (by kernel_rfl) (by kernel_rfl) (fun _ _ _ h => h) (Or.inr ⟨by rfl, rfl⟩) (by assumption) ?_
    simp only [Act.put, List.setIfInBounds_toArray, List.set_cons_zero, List.set_cons_succ]
    refine wpAnyH_take (i := 46) (oi := ⟨some 182, _, _, _, _, _⟩) (v := undef) rfl (by kernel_rfl) (by kernel_rfl) (by kernel_rfl) (fun _ _ _ h => h) (Or.inr ⟨by rfl, rfl⟩) (by assumption) ?_
    simp only [Act.put, List.setIfInBounds_toArray, List.set_cons_zero, List.set_cons_succ]
    refine wpAnyH_take (i := 47) (oi := ⟨some 183, _, _, _, _, _⟩) (v := undef) rfl (by kernel_rfl) (by kernel_rfl) (by kernel_rfl) (fun _ _ _ h => h) (Or.inr ⟨by rfl, rfl⟩) (by assumption) ?_
    simp only [Act.put, List.setIfInBounds_toArray, List.set_cons_zero, List.set_cons_succ]
    refine wpAnyH_take (i := 48) (oi := ⟨some 184, _, _, _, _, _⟩) (v := undef) rfl (by kernel_rfl) (by kernel_rfl) (by kernel_rfl) (fun _ _ _ h => h) (Or.inr ⟨by rfl, rfl⟩) (by assumption) ?_
    simp only [Act.put, List.setIfInBounds_toArray, List.set_cons_zero, List.set_cons_succ]
    refine wpAnyH_take (i := 49) (oi := ⟨some 185, _, _, _, _, _⟩) (v := undef) rfl (by kernel_rfl) (by kernel_rfl) (by kernel_rfl) (fun _ _ _ h => h) (Or.inr ⟨by rfl, rfl⟩) (by assumption) ?_
    simp only [Act.put, List.setIfInBounds_toArray, List.set_cons_zero, List.set_cons_succ]
    refine wpAnyH_take (i := 50) (oi := ⟨some 186, _, _, _, _, _⟩) (v := undef) rfl (by kernel_rfl) (by kernel_rfl) (by kernel_rfl) (fun _ _ _ h => h) (Or.inr ⟨by rfl, rfl⟩) (by assumption) ?_
    simp only [Act.put, List.setIfInBounds_toArray, List.set_cons_zero, List.set_cons_succ]
    refine wpAnyH_take (i := 51) (oi := ⟨some 187, _, _, _, _, _⟩) (v := undef) rfl (by kernel_rfl) (by kernel_rfl) (by kernel_rfl) (fun _ _ _ h => h) (Or.inr ⟨by rfl, rfl⟩) (by assumption) ?_
    simp only [Act.put, List.setIfInBounds_toArray, List.set_cons_zero, List.set_cons_succ]
    refine wpAnyH_take (i := 52) (oi := ⟨some 188, _, _, _, _, _⟩) (v := ?_) rfl (by kernel_rfl) (by kernel_rfl) (by kernel_rfl) (fun _ _ _ h => h) (Or.inl ⟨by rfl, ?_⟩) (by assumption) ?_
    rotate_left
    · intro w hSw; (try dsimp only at hSw); go_simp; try with_reducible rfl
    simp only [Act.put, List.setIfInBounds_toArray, List.set_cons_zero, List.set_cons_succ]
    refine wpAnyH_take (i := 53) (oi := ⟨some 189, _, _, _, _, _⟩) (v := ?_) rfl (by kernel_rfl) (by kernel_rfl) (by kernel_rfl) (fun _ _ _ h => h) (Or.inl ⟨by rfl, ?_⟩) (by assumption) ?_
    rotate_left
    · intro w hSw; (try dsimp only at hSw); go_simp; try with_reducible rfl
    simp only [Act.put, List.setIfInBounds_toArray, List.set_cons_zero, List.set_cons_succ]
    refine wpAnyH_take (i := 54) (oi := ⟨some 6, _, _, _, _, _⟩) (v := ?_) rfl (by kernel_rfl) (by kernel_rfl) (by kernel_rfl) (fun _ _ _ h => h) (Or.inl ⟨by rfl, ?_⟩) (by assumption) ?_
    rotate_left
    · intro w hSw; (try dsimp only at hSw); go_simp; try with_reducible rfl
    simp only [Act.put, List.setIfInBounds_toArray, List.set_cons_zero, List.set_cons_succ]
    refine wpAnyH_done (by kernel_rfl) ?_ _
    have H := KH.out _ hHeld
    clear KS KH hHeld
    go_wp2
    go_ret
    exact ⟨rfl, H.old⟩
  · clear hbS; subst hbs
    go_wp2_with fail
    replace H := (H.box2 (.int .u64 0) (.int .u64 0) 24)
    have KS : Hid (∀ w' : World, Held w [.cell (wz.heap.size) 0 (.int .u64 0), .cell (wz.heap.size) 1 (.int .u64 0), .cell (w10.heap.size) 0 (.slice qa qk qc), .num (.slice qa qk qc) (Q) 19, .cell (w9.heap.size) 0 (.slice pa pk pc), .num (.slice pa pk pc) (P) 24, .cell (w8.heap.size) 0 (.int .u64 0), .cell (w8.heap.size) 1 (.int .u64 0), .cell (w7.heap.size) 0 (.int .u64 0), .cell (w7.heap.size) 1 (.int .u64 0), .cell (w6.heap.size) 0 (.int .u64 0), .cell (w6.heap.size) 1 (.int .u64 0), .cell (w5.heap.size) 0 (.slice ma mk mc), .num (.slice ma mk mc) (T) 23, .cell (w4.heap.size) 0 (.slice ca ck cc), .num (.slice ca ck cc) (n) 5, .cell (w3.heap.size) 0 (.slice ba bk bc), .num (.slice ba bk bc) (Y) 18, .cell (w2.heap.size) 0 (.slice aa ak ac), .num (.slice aa ak ac) (X) 18, .cell (w.heap.size + 1) 0 (.int .u64 yh), .cell (w.heap.size + 1) 1 (.int .u64 yl), .cell (w.heap.size) 0 (.int .u64 xh), .cell (w.heap.size) 1 (.int .u64 xl)] w' → w'.cell? ⟨w6.heap.size, 0, none⟩ = some (.int .u64 0) ∧ w'.cell? ⟨w6.heap.size, 1, none⟩ = some (.int .u64 0) ∧ w'.cell? ⟨w9.heap.size, 0, none⟩ = some (.slice pa pk pc) ∧ w'.cell? ⟨w7.heap.size, 0, none⟩ = some (.int .u64 0) ∧ w'.cell? ⟨w7.heap.size, 1, none⟩ = some (.int .u64 0) ∧ w'.cell? ⟨w10.heap.size, 0, none⟩ = some (.slice qa qk qc) ∧ w'.cell? ⟨w8.heap.size, 0, none⟩ = some (.int .u64 0) ∧ w'.cell? ⟨w8.heap.size, 1, none⟩ = some (.int .u64 0) ∧ w'.cell? ⟨w2.heap.size, 0, none⟩ = some (.slice aa ak ac) ∧ w'.cell? ⟨w3.heap.size, 0, none⟩ = some (.slice ba bk bc) ∧ w'.cell? ⟨wz.heap.size, 0, none⟩ = some (.int .u64 0) ∧ w'.cell? ⟨wz.heap.size, 1, none⟩ = some (.int .u64 0) ∧ Held w [.cell (wz.heap.size) 0 (.int .u64 0), .cell (wz.heap.size) 1 (.int .u64 0), .cell (w10.heap.size) 0 (.slice qa qk qc), .num (.slice qa qk qc) (Q) 19, .cell (w9.heap.size) 0 (.slice pa pk pc), .num (.slice pa pk pc) (P) 24, .cell (w8.heap.size) 0 (.int .u64 0), .cell (w8.heap.size) 1 (.int .u64 0), .cell (w7.heap.size) 0 (.int .u64 0), .cell (w7.heap.size) 1 (.int .u64 0), .cell (w6.heap.size) 0 (.int .u64 0), .cell (w6.heap.size) 1 (.int .u64 0), .cell (w5.heap.size) 0 (.slice ma mk mc), .num (.slice ma mk mc) (T) 23, .cell (w4.heap.size) 0 (.slice ca ck cc), .num (.slice ca ck cc) (n) 5, .cell (w3.heap.size) 0 (.slice ba bk bc), .num (.slice ba bk bc) (Y) 18, .cell (w2.heap.size) 0 (.slice aa ak ac), .num (.slice aa ak ac) (X) 18, .cell (w.heap.size + 1) 0 (.int .u64 yh), .cell (w.heap.size + 1) 1 (.int .u64 yl), .cell (w.heap.size) 0 (.int .u64 xh), .cell (w.heap.size) 1 (.int .u64 xl)] w') := Lib.hid (fun _ h => ⟨h.cell (w6.heap.size) 0 (.int .u64 0) (List.Mem.tail _ (List.Mem.tail _ (List.Mem.tail _ (List.Mem.tail _ (List.Mem.tail _ (List.Mem.tail _ (List.Mem.tail _ (List.Mem.tail _ (List.Mem.tail _ (List.Mem.tail _ (List.Mem.head _))))))))))), h.cell (w6.heap.size) 1 (.int .u64 0) (List.Mem.tail _ (List.Mem.tail _ (List.Mem.tail _ (List.Mem.tail _ (List.Mem.tail _ (List.Mem.tail _ (List.Mem.tail _ (List.Mem.tail _ (List.Mem.tail _ (List.Mem.tail _ (List.Mem.tail _ (List.Mem.head _)))))))))))), h.cell (w9.heap.size) 0 (.slice pa pk pc) (List.Mem.tail _ (List.Mem.tail _ (List.Mem.tail _ (List.Mem.tail _ (List.Mem.head _))))), h.cell (w7.heap.size) 0 (.int .u64 0) (List.Mem.tail _ (List.Mem.tail _ (List.Mem.tail _ (List.Mem.tail _ (List.Mem.tail _ (List.Mem.tail _ (List.Mem.tail _ (List.Mem.tail _ (List.Mem.head _))))))))), h.cell (w7.heap.size) 1 (.int .u64 0) (List.Mem.tail _ (List.Mem.tail _ (List.Mem.tail _ (List.Mem.tail _ (List.Mem.tail _ (List.Mem.tail _ (List.Mem.tail _ (List.Mem.tail _ (List.Mem.tail _ (List.Mem.head _)))))))))), h.cell (w10.heap.size) 0 (.slice qa qk qc) (List.Mem.tail _ (List.Mem.tail _ (List.Mem.head _))), h.cell (w8.heap.size) 0 (.int .u64 0) (List.Mem.tail _ (List.Mem.tail _ (List.Mem.tail _ (List.Mem.tail _ (List.Mem.tail _ (List.Mem.tail _ (List.Mem.head _))))))), h.cell (w8.heap.size) 1 (.int .u64 0) (List.Mem.tail _ (List.Mem.tail _ (List.Mem.tail _ (List.Mem.tail _ (List.Mem.tail _ (List.Mem.tail _ (List.Mem.tail _ (List.Mem.head _)))))))), h.cell (w2.heap.size) 0 (.slice aa ak ac) (List.Mem.tail _ (List.Mem.tail _ (List.Mem.tail _ (List.Mem.tail _ (List.Mem.tail _ (List.Mem.tail _ (List.Mem.tail _ (List.Mem.tail _ (List.Mem.tail _ (List.Mem.tail _ (List.Mem.tail _ (List.Mem.tail _ (List.Mem.tail _ (List.Mem.tail _ (List.Mem.tail _ (List.Mem.tail _ (List.Mem.tail _ (List.Mem.tail _ (List.Mem.head _))))))))))))))))))), h.cell (w3.heap.size) 0 (.slice ba bk bc) (List.Mem.tail _ (List.Mem.tail _ (List.Mem.tail _ (List.Mem.tail _ (List.Mem.tail _ (List.Mem.tail _ (List.Mem.tail _ (List.Mem.tail _ (List.Mem.tail _ (List.Mem.tail _ (List.Mem.tail _ (List.Mem.tail _ (List.Mem.tail _ (List.Mem.tail _ (List.Mem.tail _ (List.Mem.tail _ (List.Mem.head _))))))))))))))))), h.cell (wz.heap.size) 0 (.int .u64 0) (List.Mem.head _), h.cell (wz.heap.size) 1 (.int .u64 0) (List.Mem.tail _ (List.Mem.head _)), h⟩)
    have KH : Hid (∀ w' : World, w'.cell? ⟨w6.heap.size, 0, none⟩ = some (.int .u64 0) ∧ w'.cell? ⟨w6.heap.size, 1, none⟩ = some (.int .u64 0) ∧ w'.cell? ⟨w9.heap.size, 0, none⟩ = some (.slice pa pk pc) ∧ w'.cell? ⟨w7.heap.size, 0, none⟩ = some (.int .u64 0) ∧ w'.cell? ⟨w7.heap.size, 1, none⟩ = some (.int .u64 0) ∧ w'.cell? ⟨w10.heap.size, 0, none⟩ = some (.slice qa qk qc) ∧ w'.cell? ⟨w8.heap.size, 0, none⟩ = some (.int .u64 0) ∧ w'.cell? ⟨w8.heap.size, 1, none⟩ = some (.int .u64 0) ∧ w'.cell? ⟨w2.heap.size, 0, none⟩ = some (.slice aa ak ac) ∧ w'.cell? ⟨w3.heap.size, 0, none⟩ = some (.slice ba bk bc) ∧ w'.cell? ⟨wz.heap.size, 0, none⟩ = some (.int .u64 0) ∧ w'.cell? ⟨wz.heap.size, 1, none⟩ = some (.int .u64 0) ∧ Held w [.cell (wz.heap.size) 0 (.int .u64 0), .cell (wz.heap.size) 1 (.int .u64 0), .cell (w10.heap.size) 0 (.slice qa qk qc), .num (.slice qa qk qc) (Q) 19, .cell (w9.heap.size) 0 (.slice pa pk pc), .num (.slice pa pk pc) (P) 24, .cell (w8.heap.size) 0 (.int .u64 0), .cell (w8.heap.size) 1 (.int .u64 0), .cell (w7.heap.size) 0 (.int .u64 0), .cell (w7.heap.size) 1 (.int .u64 0), .cell (w6.heap.size) 0 (.int .u64 0), .cell (w6.heap.size) 1 (.int .u64 0), .cell (w5.heap.size) 0 (.slice ma mk mc), .num (.slice ma mk mc) (T) 23, .cell (w4.heap.size) 0 (.slice ca ck cc), .num (.slice ca ck cc) (n) 5, .cell (w3.heap.size) 0 (.slice ba bk bc), .num (.slice ba bk bc) (Y) 18, .cell (w2.heap.size) 0 (.slice aa ak ac), .num (.slice aa ak ac) (X) 18, .cell (w.heap.size + 1) 0 (.int .u64 yh), .cell (w.heap.size + 1) 1 (.int .u64 yl), .cell (w.heap.size) 0 (.int .u64 xh), .cell (w.heap.size) 1 (.int .u64 xl)] w' → Held w [.cell (wz.heap.size) 0 (.int .u64 0), .cell (wz.heap.size) 1 (.int .u64 0), .cell (w10.heap.size) 0 (.slice qa qk qc), .num (.slice qa qk qc) (Q) 19, .cell (w9.heap.size) 0 (.slice pa pk pc), .num (.slice pa pk pc) (P) 24, .cell (w8.heap.size) 0 (.int .u64 0), .cell (w8.heap.size) 1 (.int .u64 0), .cell (w7.heap.size) 0 (.int .u64 0), .cell (w7.heap.size) 1 (.int .u64 0), .cell (w6.heap.size) 0 (.int .u64 0), .cell (w6.heap.size) 1 (.int .u64 0), .cell (w5.heap.size) 0 (.slice ma mk mc), .num (.slice ma mk mc) (T) 23, .cell (w4.heap.size) 0 (.slice ca ck cc), .num (.slice ca ck cc) (n) 5, .cell (w3.heap.size) 0 (.slice ba bk bc), .num (.slice ba bk bc) (Y) 18, .cell (w2.heap.size) 0 (.slice aa ak ac), .num (.slice aa ak ac) (X) 18, .cell (w.heap.size + 1) 0 (.int .u64 yh), .cell (w.heap.size + 1) 1 (.int .u64 yl), .cell (w.heap.size) 0 (.int .u64 xh), .cell (w.heap.size) 1 (.int .u64 xl)] w') := Lib.hid (fun _ h => h.2.2.2.2.2.2.2.2.2.2.2.2)
    refine wp_region_held_drew (S := fun w' => w'.cell? ⟨w6.heap.size, 0, none⟩ = some (.int .u64 0) ∧ w'.cell? ⟨w6.heap.size, 1, none⟩ = some (.int .u64 0) ∧ w'.cell? ⟨w9.heap.size, 0, none⟩ = some (.slice pa pk pc) ∧ w'.cell? ⟨w7.heap.size, 0, none⟩ = some (.int .u64 0) ∧ w'.cell? ⟨w7.heap.size, 1, none⟩ = some (.int .u64 0) ∧ w'.cell? ⟨w10.heap.size, 0, none⟩ = some (.slice qa qk qc) ∧ w'.cell? ⟨w8.heap.size, 0, none⟩ = some (.int .u64 0) ∧ w'.cell? ⟨w8.heap.size, 1, none⟩ = some (.int .u64 0) ∧ w'.cell? ⟨w2.heap.size, 0, none⟩ = some (.slice aa ak ac) ∧ w'.cell? ⟨w3.heap.size, 0, none⟩ = some (.slice ba bk bc) ∧ w'.cell? ⟨wz.heap.size, 0, none⟩ = some (.int .u64 0) ∧ w'.cell? ⟨wz.heap.size, 1, none⟩ = some (.int .u64 0) ∧ Held w [.cell (wz.heap.size) 0 (.int .u64 0), .cell (wz.heap.size) 1 (.int .u64 0), .cell (w10.heap.size) 0 (.slice qa qk qc), .num (.slice qa qk qc) (Q) 19, .cell (w9.heap.size) 0 (.slice pa pk pc), .num (.slice pa pk pc) (P) 24, .cell (w8.heap.size) 0 (.int .u64 0), .cell (w8.heap.size) 1 (.int .u64 0), .cell (w7.heap.size) 0 (.int .u64 0), .cell (w7.heap.size) 1 (.int .u64 0), .cell (w6.heap.size) 0 (.int .u64 0), .cell (w6.heap.size) 1 (.int .u64 0), .cell (w5.heap.size) 0 (.slice ma mk mc), .num (.slice ma mk mc) (T) 23, .cell (w4.heap.size) 0 (.slice ca ck cc), .num (.slice ca ck cc) (n) 5, .cell (w3.heap.size) 0 (.slice ba bk bc), .num (.slice ba bk bc) (Y) 18, .cell (w2.heap.size) 0 (.slice aa ak ac), .num (.slice aa ak ac) (X) 18, .cell (w.heap.size + 1) 0 (.int .u64 yh), .cell (w.heap.size + 1) 1 (.int .u64 yl), .cell (w.heap.size) 0 (.int .u64 xh), .cell (w.heap.size) 1 (.int .u64 xl)] w') (by kernel_rfl) (KS.out _ H.drew) (fun hHeld => ?_)
    clear H
    refine wpAnyH_take (i := 0) (oi := ⟨some 136, _, _, _, _, _⟩) (v := ?_) rfl (by kernel_rfl) (by kernel_rfl) (by kernel_rfl) (fun _ _ _ h => h) (Or.inl ⟨by rfl, ?_⟩) (by assumption) ?_
    rotate_left
    · intro w hSw; (try dsimp only at hSw); go_simp; try with_reducible rfl
    simp only [Act.put, List.setIfInBounds_toArray, List.set_cons_zero, List.set_cons_succ]
    refine wpAnyH_take (i := 1) (oi := ⟨some 137, _, _, _, _, _⟩) (v := ?_) rfl (by kernel_rfl) (by kernel_rfl) (by kernel_rfl) (fun _ _ _ h => h) (Or.inl ⟨by rfl, ?_⟩) (by assumption) ?_
    rotate_left
    · intro w hSw; (try dsimp only at hSw); go_simp; try with_reducible rfl
    simp only [Act.put, List.setIfInBounds_toArray, List.set_cons_zero, List.set_cons_succ]
    refine wpAnyH_take (i := 2) (oi := ⟨some 138, _, _, _, _, _⟩) (v := ?_) rfl (by kernel_rfl) (by kernel_rfl) (by kernel_rfl) (fun _ _ _ h => h) (Or.inl ⟨by rfl, ?_⟩) (by assumption) ?_
    rotate_left
    · intro w hSw; (try dsimp only at hSw); go_simp; try with_reducible rfl
    simp only [Act.put, List.setIfInBounds_toArray, List.set_cons_zero, List.set_cons_succ]
    refine wpAnyH_take (i := 3) (oi := ⟨some 139, _, _, _, _, _⟩) (v := ?_) rfl (by kernel_rfl) (by kernel_rfl) (by kernel_rfl) (fun _ _ _ h => h) (Or.inl ⟨by rfl, ?_⟩) (by assumption) ?_
    rotate_left
    · intro w hSw; (try dsimp only at hSw); go_simp; try with_reducible rfl
    simp only [Act.put, List.setIfInBounds_toArray, List.set_cons_zero, List.set_cons_succ]
    refine wpAnyH_take (i := 4) (oi := ⟨some 140, _, _, _, _, _⟩) (v := undef) rfl (by kernel_rfl) (by kernel_rfl) (by kernel_rfl) (fun _ _ _ h => h) (Or.inr ⟨by rfl, rfl⟩) (by assumption) ?_
    simp only [Act.put, List.setIfInBounds_toArray, List.set_cons_zero, List.set_cons_succ]
    refine wpAnyH_take (i := 5) (oi := ⟨some 141, _, _, _, _, _⟩) (v := undef) rfl (by kernel_rfl) (by kernel_rfl) (by kernel_rfl) (fun _ _ _ h => h) (Or.inr ⟨by rfl, rfl⟩) (by assumption) ?_
    simp only [Act.put, List.setIfInBounds_toArray, List.set_cons_zero, List.set_cons_succ]
    refine wpAnyH_take (i := 6) (oi := ⟨some 142, _, _, _, _, _⟩) (v := undef) rfl (by kernel_rfl) (by kernel_rfl) (by kernel_rfl) (fun _ _ _ h => h) (Or.inr ⟨by rfl, rfl⟩) (by assumption) ?_
    simp only [Act.put, List.setIfInBounds_toArray, List.set_cons_zero, List.set_cons_succ]
    refine wpAnyH_take (i := 7) (oi := ⟨some 143, _, _, _, _, _⟩) (v := ?_) rfl (by kernel_rfl) (by kernel_rfl) (by kernel_rfl) (fun _ _ _ h => h) (Or.inl ⟨by rfl, ?_⟩) (by assumption) ?_
    rotate_left
    · intro w hSw; (try dsimp only at hSw); go_simp; try with_reducible rfl
    simp only [Act.put, List.setIfInBounds_toArray, List.set_cons_zero, List.set_cons_succ]
    refine wpAnyH_take (i := 8) (oi := ⟨some 144, _, _, _, _, _⟩) (v := ?_) rfl (by kernel_rfl) (by kernel_rfl) (by kernel_rfl) (fun _ _ _ h => h) (Or.inl ⟨by rfl, ?_⟩) (by assumption) ?_
    rotate_left
    · intro w hSw; (try dsimp only at hSw); go_simp; try with_reducible rfl
    simp only [Act.put, List.setIfInBounds_toArray, List.set_cons_zero, List.set_cons_succ]
    refine wpAnyH_take (i := 9) (oi := ⟨some 145, _, _, _, _, _⟩) (v := ?_) rfl (by kernel_rfl) (by kernel_rfl) (by kernel_rfl) (fun _ _ _ h => h) (Or.inl ⟨by rfl, ?_⟩) (by assumption) ?_
    rotate_left
    · intro w hSw; (try dsimp only at hSw); go_simp; try with_reducible rfl
    simp only [Act.put, List.setIfInBounds_toArray, List.set_cons_zero, List.set_cons_succ]
    refine wpAnyH_take (i := 10) (oi := ⟨some 146, _, _, _, _, _⟩) (v := ?_) rfl (by kernel_rfl) (by kernel_rfl) (by kernel_rfl) (fun _ _ _ h => h) (Or.inl ⟨by rfl, ?_⟩) (by assumption) ?_
    rotate_left
    · intro w hSw; (try dsimp only at hSw); go_simp; try with_reducible rfl
    simp only [Act.put, List.setIfInBounds_toArray, List.set_cons_zero, List.set_cons_succ]
    refine wpAnyH_take (i := 11) (oi := ⟨some 147, _, _, _, _, _⟩) (v := ?_) rfl (by kernel_rfl) (by kernel_rfl) (by kernel_rfl) (fun _ _ _ h => h) (Or.inl ⟨by rfl, ?_⟩) (by assumption) ?_
    rotate_left
    · intro w hSw; (try dsimp only at hSw); go_simp; try with_reducible rfl
    simp only [Act.put, List.setIfInBounds_toArray, List.set_cons_zero, List.set_cons_succ]
    refine wpAnyH_take (i := 12) (oi := ⟨some 148, _, _, _, _, _⟩) (v := ?_) rfl (by kernel_rfl) (by kernel_rfl) (by kernel_rfl) (fun _ _ _ h => h) (Or.inl ⟨by rfl, ?_⟩) (by assumption) ?_
    rotate_left
    · intro w hSw; (try dsimp only at hSw); go_simp; try with_reducible rfl
    simp only [Act.put, List.setIfInBounds_toArray, List.set_cons_zero, List.set_cons_succ]
    refine wpAnyH_take (i := 13) (oi := ⟨some 149, _, _, _, _, _⟩) (v := ?_) rfl (by kernel_rfl) (by kernel_rfl) (by kernel_rfl) (fun _ _ _ h => h) (Or.inl ⟨by rfl, ?_⟩) (by assumption) ?_
    rotate_left
    · intro w hSw; (try dsimp only at hSw); go_simp; try with_reducible rfl
    simp only [Act.put, List.setIfInBounds_toArray, List.set_cons_zero, List.set_cons_succ]
    refine wpAnyH_take (i := 14) (oi := ⟨some 150, _, _, _, _, _⟩) (v := ?_) rfl (by kernel_rfl) (by kernel_rfl) (by kernel_rfl) (fun _ _ _ h => h) (Or.inl ⟨by rfl, ?_⟩) (by assumption) ?_
    rotate_left
    · intro w hSw; (try dsimp only at hSw); go_simp; try with_reducible rfl
    simp only [Act.put, List.setIfInBounds_toArray, List.set_cons_zero, List.set_cons_succ]
    refine wpAnyH_take (i := 15) (oi := ⟨some 151, _, _, _, _, _⟩) (v := ?_) rfl (by kernel_rfl) (by kernel_rfl) (by kernel_rfl) (fun _ _ _ h => h) (Or.inl ⟨by rfl, ?_⟩) (by assumption) ?_
    rotate_left
    · intro w hSw; (try dsimp only at hSw); go_simp; try with_reducible rfl
    simp only [Act.put, List.setIfInBounds_toArray, List.set_cons_zero, List.set_cons_succ]
    refine wpAnyH_take (i := 16) (oi := ⟨some 152, _, _, _, _, _⟩) (v := ?_) rfl (by kernel_rfl) (by kernel_rfl) (by kernel_rfl) (fun _ _ _ h => h) (Or.inl ⟨by rfl, ?_⟩) (by assumption) ?_
    rotate_left
    · intro w hSw; (try dsimp only at hSw); go_simp; try with_reducible rfl
    simp only [Act.put, List.setIfInBounds_toArray, List.set_cons_zero, List.set_cons_succ]
    refine wpAnyH_take (i := 17) (oi := ⟨some 153, _, _, _, _, _⟩) (v := ?_) rfl (by kernel_rfl) (by kernel_rfl) (by kernel_rfl) (fun _ _ _ h => h) (Or.inl ⟨by rfl, ?_⟩) (by assumption) ?_
    rotate_left
    · intro w hSw; (try dsimp only at hSw); go_simp; try with_reducible rfl
    simp only [Act.put, List.setIfInBounds_toArray, List.set_cons_zero, List.set_cons_succ]
    refine wpAnyH_take (i := 18) (oi := ⟨some 154, _, _, _, _, _⟩) (v := ?_) rfl (by kernel_rfl) (by kernel_rfl) (by kernel_rfl) (fun _ _ _ h => h) (Or.inl ⟨by rfl, ?_⟩) (by assumption) ?_
    rotate_left
    · intro w hSw; (try dsimp only at hSw); go_simp; try with_reducible rfl
    simp only [Act.put, List.setIfInBounds_toArray, List.set_cons_zero, List.set_cons_succ]
    refine wpAnyH_take (i := 19) (oi := ⟨some 155, _, _, _, _, _⟩) (v := ?_) rfl (by kernel_rfl) (by kernel_rfl) (by kernel_rfl) (fun _ _ _ h => h) (Or.inl ⟨by rfl, ?_⟩) (by assumption) ?_
    rotate_left
    · intro w hSw; (try dsimp only at hSw); go_simp; try with_reducible rfl
    simp only [Act.put, List.setIfInBounds_toArray, List.set_cons_zero, List.set_cons_succ]
    refine wpAnyH_take (i := 20) (oi := ⟨some 156, _, _, _, _, _⟩) (v := ?_) rfl (by kernel_rfl) (by kernel_rfl) (by kernel_rfl) (fun _ _ _ h => h) (Or.inl ⟨by rfl, ?_⟩) (by assumption) ?_
    rotate_left
    · intro w hSw; (try dsimp only at hSw); go_simp; try with_reducible rfl
    simp only [Act.put, List.setIfInBounds_toArray, List.set_cons_zero, List.set_cons_succ]
    refine wpAnyH_take (i := 21) (oi := ⟨some 157, _, _, _, _, _⟩) (v := undef) rfl (by kernel_rfl) (by kernel_rfl) (by kernel_rfl) (fun _ _ _ h => h) (Or.inr ⟨by rfl, rfl⟩) (by assumption) ?_
    simp only [Act.put, List.setIfInBounds_toArray, List.set_cons_zero, List.set_cons_succ]
    refine wpAnyH_take (i := 22) (oi := ⟨some 158, _, _, _, _, _⟩) (v := undef) rfl (by kernel_rfl) (by kernel_rfl) (by kernel_rfl) (fun _ _ _ h => h) (Or.inr ⟨by rfl, rfl⟩) (by assumption) ?_
    simp only [Act.put, List.setIfInBounds_toArray, List.set_cons_zero, List.set_cons_succ]
    refine wpAnyH_take (i := 23) (oi := ⟨some 159, _, _, _, _, _⟩) (v := undef) rfl (by kernel_rfl) (by kernel_rfl) (by kernel_rfl) (fun _ _ _ h => h) (Or.inr ⟨by rfl, rfl⟩) (by assumption) ?_
    simp only [Act.put, List.setIfInBounds_toArray, List.set_cons_zero, List.set_cons_succ]
    refine wpAnyH_take (i := 24) (oi := ⟨some 160, _, _, _, _, _⟩) (v := ?_) rfl (by kernel_rfl) (by kernel_rfl) (by kernel_rfl) (fun _ _ _ h => h) (Or.inl ⟨by rfl, ?_⟩) (by assumption) ?_
    rotate_left
    · intro w hSw; (try dsimp only at hSw); go_simp; try with_reducible rfl
    simp only [Act.put, List.setIfInBounds_toArray, List.set_cons_zero, List.set_cons_succ]
    refine wpAnyH_take (i := 25) (oi := ⟨some 161, _, _, _, _, _⟩) (v := ?_) rfl (by kernel_rfl) (by kernel_rfl) (by kernel_rfl) (fun _ _ _ h => h) (Or.inl ⟨by rfl, ?_⟩) (by assumption) ?_
    rotate_left
    · intro w hSw; (try dsimp only at hSw); go_simp; try with_reducible rfl
    simp only [Act.put, List.setIfInBounds_toArray, List.set_cons_zero, List.set_cons_succ]
    refine wpAnyH_take (i := 26) (oi := ⟨some 162, _, _, _, _, _⟩) (v := ?_) rfl (by kernel_rfl) (by kernel_rfl) (by kernel_rfl) (fun _ _ _ h => h) (Or.inl ⟨by rfl, ?_⟩) (by assumption) ?_
    rotate_left
    · intro w hSw; (try dsimp only at hSw); go_simp; try with_reducible rfl
    simp only [Act.put, List.setIfInBounds_toArray, List.set_cons_zero, List.set_cons_succ]
    refine wpAnyH_take (i := 27) (oi := ⟨some 163, _, _, _, _, _⟩) (v := ?_) rfl (by kernel_rfl) (by kernel_rfl) (by kernel_rfl) (fun _ _ _ h => h) (Or.inl ⟨by rfl, ?_⟩) (by assumption) ?_
    rotate_left
    · intro w hSw; (try dsimp only at hSw); go_simp; try with_reducible rfl
    simp only [Act.put, List.setIfInBounds_toArray, List.set_cons_zero, List.set_cons_succ]
    refine wpAnyH_take (i := 28) (oi := ⟨some 164, _, _, _, _, _⟩) (v := ?_) rfl (by kernel_rfl) (by kernel_rfl) (by kernel_rfl) (fun _ _ _ h => h) (Or.inl ⟨by rfl, ?_⟩) (by assumption) ?_
    rotate_left
    · intro w hSw; (try dsimp only at hSw); go_simp; try with_reducible rfl
    simp only [Act.put, List.setIfInBounds_toArray, List.set_cons_zero, List.set_cons_succ]
    refine wpAnyH_take (i := 29) (oi := ⟨some 165, _, _, _, _, _⟩) (v := ?_) rfl (by kernel_rfl) (by kernel_rfl) (by kernel_rfl) (fun _ _ _ h => h) (Or.inl ⟨by rfl, ?_⟩) (by assumption) ?_
    rotate_left
    · intro w hSw; (try dsimp only at hSw); go_simp; try with_reducible rfl
    simp only [Act.put, List.setIfInBounds_toArray, List.set_cons_zero, List.set_cons_succ]
    refine wpAnyH_take (i := 30) (oi := ⟨some 166, _, _, _, _, _⟩) (v := ?_) rfl (by kernel_rfl) (by kernel_rfl) (by kernel_rfl) (fun _ _ _ h => h) (Or.inl ⟨by rfl, ?_⟩) (by assumption) ?_
    rotate_left
    · intro w hSw; (try dsimp only at hSw); go_simp; try with_reducible rfl
    simp only [Act.put, List.setIfInBounds_toArray, List.set_cons_zero, List.set_cons_succ]
    refine wpAnyH_take (i := 31) (oi := ⟨some 167, _, _, _, _, _⟩) (v := ?_) rfl (by kernel_rfl) (by kernel_rfl) (by kernel_rfl) (fun _ _ _ h => h) (Or.inl ⟨by rfl, ?_⟩) (by assumption) ?_
    rotate_left
    · intro w hSw; (try dsimp only at hSw); go_simp; try with_reducible rfl
    simp only [Act.put, List.setIfInBounds_toArray, List.set_cons_zero, List.set_cons_succ]
    refine wpAnyH_take (i := 32) (oi := ⟨some 168, _, _, _, _, _⟩) (v := ?_) rfl (by kernel_rfl) (by kernel_rfl) (by kernel_rfl) (fun _ _ _ h => h) (Or.inl ⟨by rfl, ?_⟩) (by assumption) ?_
    rotate_left
    · intro w hSw; (try dsimp only at hSw); go_simp; try with_reducible rfl
    simp only [Act.put, List.setIfInBounds_toArray, List.set_cons_zero, List.set_cons_succ]
    refine wpAnyH_take (i := 33) (oi := ⟨some 169, _, _, _, _, _⟩) (v := ?_) rfl (by kernel_rfl) (by kernel_rfl) (by kernel_rfl) (fun _ _ _ h => h) (Or.inl ⟨by rfl, ?_⟩) (by assumption) ?_
    rotate_left
    · intro w hSw; (try dsimp only at hSw); go_simp; try with_reducible rfl
    simp only [Act.put, List.setIfInBounds_toArray, List.set_cons_zero, List.set_cons_succ]
    refine wpAnyH_take (i := 34) (oi := ⟨some 170, _, _, _, _, _⟩) (v := ?_) rfl (by kernel_rfl) (by kernel_rfl) (by kernel_rfl) (fun _ _ _ h => h) (Or.inl ⟨by rfl, ?_⟩) (by assumption) ?_
    rotate_left
    · intro w hSw; (try dsimp only at hSw); go_simp; try with_reducible rfl
    simp only [Act.put, List.setIfInBounds_toArray, List.set_cons_zero, List.set_cons_succ]
    refine wpAnyH_take (i := 35) (oi := ⟨some 171, _, _, _, _, _⟩) (v := ?_) rfl (by kernel_rfl) (by kernel_rfl) (by kernel_rfl) (fun _ _ _ h => h) (Or.inl ⟨by rfl, ?_⟩) (by assumption) ?_
    rotate_left
    · intro w hSw; (try dsimp only at hSw); go_simp; try with_reducible rfl
    simp only [Act.put, List.setIfInBounds_toArray, List.set_cons_zero, List.set_cons_succ]
    refine wpAnyH_take (i := 36) (oi := ⟨some 172, _, _, _, _, _⟩) (v := ?_) rfl (by kernel_rfl) (by kernel_rfl) (by kernel_rfl) (fun _ _ _ h => h) (Or.inl ⟨by rfl, ?_⟩) (by assumption) ?_
    rotate_left
    · intro w hSw; (try dsimp only at hSw); go_simp; try with_reducible rfl
    simp only [Act.put, List.setIfInBounds_toArray, List.set_cons_zero, List.set_cons_succ]
    refine wpAnyH_take (i := 37) (oi := ⟨some 173, _, _, _, _, _⟩) (v := ?_) rfl (by kernel_rfl) (by kernel_rfl) (by kernel_rfl) (fun _ _ _ h => h) (Or.inl ⟨by rfl, ?_⟩) (by assumption) ?_
    rotate_left
    · intro w hSw; (try dsimp only at hSw); go_simp; try with_reducible rfl
    simp only [Act.put, List.setIfInBounds_toArray, List.set_cons_zero, List.set_cons_succ]
    refine wpAnyH_take (i := 38) (oi := ⟨some 174, _, _, _, _, _⟩) (v := undef) rfl (by kernel_rfl) (by kernel_rfl) (by kernel_rfl) (fun _ _ _ h => h) (Or.inr ⟨by rfl, rfl⟩) (by assumption) ?_
    simp only [Act.put, List.setIfInBounds_toArray, List.set_cons_zero, List.set_cons_succ]
    refine wpAnyH_take (i := 39) (oi := ⟨some 175, _, _, _, _, _⟩) (v := undef) rfl (by kernel_rfl) (by kernel_rfl) (by kernel_rfl) (fun _ _ _ h => h) (Or.inr ⟨by rfl, rfl⟩) (by assumption) ?_
    simp only [Act.put, List.setIfInBounds_toArray, List.set_cons_zero, List.set_cons_succ]
    refine wpAnyH_take (i := 40) (oi := ⟨some 176, _, _, _, _, _⟩) (v := undef) rfl (by kernel_rfl) (by kernel_rfl) (by kernel_rfl) (fun _ _ _ h => h) (Or.inr ⟨by rfl, rfl⟩) (by assumption) ?_
    simp only [Act.put, List.setIfInBounds_toArray, List.set_cons_zero, List.set_cons_succ]
    refine wpAnyH_take (i := 41) (oi := ⟨some 177, _, _, _, _, _⟩) (v := undef) rfl (by kernel_rfl) (by kernel_rfl) (by kernel_rfl) (fun _ _ _ h => h) (Or.inr ⟨by rfl, rfl⟩) (by assumption) ?_
    simp only [Act.put, List.setIfInBounds_toArray, List.set_cons_zero, List.set_cons_succ]
    refine wpAnyH_take (i := 42) (oi := ⟨some 178, _, _, _, _, _⟩) (v := undef) rfl (by kernel_rfl) (by kernel_rfl) (by kernel_rfl) (fun _ _ _ h => h) (Or.inr ⟨by rfl, rfl⟩) (by assumption) ?_
    simp only [Act.put, List.setIfInBounds_toArray, List.set_cons_zero, List.set_cons_succ]
    refine wpAnyH_take (i := 43) (oi := ⟨some 179, _, _, _, _, _⟩) (v := ?_) rfl (by kernel_rfl) (by kernel_rfl) (by kernel_rfl) (fun _ _ _ h => h) (Or.inl ⟨by rfl, ?_⟩) (by assumption) ?_
    rotate_left
    · intro w hSw; (try dsimp only at hSw); go_simp; try with_reducible rfl
    simp only [Act.put, List.setIfInBounds_toArray, List.set_cons_zero, List.set_cons_succ]
    refine wpAnyH_take (i := 44) (oi := ⟨some 180, _, _, _, _, _⟩) (v := ?_) rfl (by kernel_rfl) (by kernel_rfl) (by kernel_rfl) (fun _ _ _ h => h) (Or.inl ⟨by rfl, ?_⟩) (by assumption) ?_
    rotate_left
    · intro w hSw; (try dsimp only at hSw); go_simp; try with_reducible rfl
    simp only [Act.put, List.setIfInBounds_toArray, List.set_cons_zero, List.set_cons_succ]
    refine wpAnyH_take (i := 45) (oi := ⟨some 181, _, _, _, _, _⟩) (v := ?_) rfl (by kernel_rfl) (by kernel_rfl) (by kernel_rfl) (fun _ _ _ h => h) (Or.inl ⟨by rfl, ?_⟩) (by assumption) ?_
    rotate_left
    · intro w hSw; (try dsimp only at hSw); go_simp; try with_reducible rfl
    simp only [Act.put, List.setIfInBounds_toArray, List.set_cons_zero, List.set_cons_succ]
    refine wpAnyH_take (i := 46) (oi := ⟨some 182, _, _, _, _, _⟩) (v := ?_) rfl (by kernel_rfl) (by kernel_rfl) (by kernel_rfl) (fun _ _ _ h => h) (Or.inl ⟨by rfl, ?_⟩) (by assumption) ?_
    rotate_left
    · intro w hSw; (try dsimp only at hSw); go_simp; try with_reducible rfl
    simp only [Act.put, List.setIfInBounds_toArray, List.set_cons_zero, List.set_cons_succ]
    refine wpAnyH_take (i := 47) (oi := ⟨some 183, _, _, _, _, _⟩) (v := ?_) rfl (by kernel_rfl) (by kernel_rfl) (by kernel_rfl) (fun _ _ _ h => h) (Or.inl ⟨by rfl, ?_⟩) (by assumption) ?_
    rotate_left
    · intro w hSw; (try dsimp only at hSw); go_simp; try with_reducible rfl
    simp only [Act.put, List.setIfInBounds_toArray, List.set_cons_zero, List.set_cons_succ]
    refine wpAnyH_take (i := 48) (oi := ⟨some 184, _, _, _, _, _⟩) (v := ?_) rfl (by kernel_rfl) (by kernel_rfl) (by kernel_rfl) (fun _ _ _ h => h) (Or.inl ⟨by rfl, ?_⟩) (by assumption) ?_
    rotate_left
    · intro w hSw; (try dsimp only at hSw); go_simp; try with_reducible rfl
    simp only [Act.put, List.setIfInBounds_toArray, List.set_cons_zero, List.set_cons_succ]
    refine wpAnyH_take (i := 49) (oi := ⟨some 185, _, _, _, _, _⟩) (v := ?_) rfl (by kernel_rfl) (by kernel_rfl) (by kernel_rfl) (fun _ _ _ h => h) (Or.inl ⟨by rfl, ?_⟩) (by assumption) ?_
    rotate_left
    · intro w hSw; (try dsimp only at hSw); go_simp; try with_reducible rfl
    simp only [Act.put, List.setIfInBounds_toArray, List.set_cons_zero, List.set_cons_succ]
    refine wpAnyH_take (i := 50) (oi := ⟨some 186, _, _, _, _, _⟩) (v := ?_) rfl (by kernel_rfl) (by kernel_rfl) (by kernel_rfl) (fun _ _ _ h => h) (Or.inl ⟨by rfl, ?_⟩) (by assumption) ?_
    rotate_left
    · intro w hSw; (try dsimp only at hSw); go_simp; try with_reducible rfl
    simp only [Act.put, List.setIfInBounds_toArray, List.set_cons_zero, List.set_cons_succ]
    refine wpAnyH_take (i := 51) (oi := ⟨some 187, _, _, _, _, _⟩) (v := ?_) rfl (by kernel_rfl) (by kernel_rfl) (by kernel_rfl) (fun _ _ _ h => h) (Or.inl ⟨by rfl, ?_⟩) (by assumption) ?_
    rotate_left
    · intro w hSw; (try dsimp only at hSw); go_simp; try with_reducible rfl
    simp only [Act.put, List.setIfInBounds_toArray, List.set_cons_zero, List.set_cons_succ]
    refine wpAnyH_take (i := 52) (oi := ⟨some 188, _, _, _, _, _⟩) (v := ?_) rfl (by kernel_rfl) (by kernel_rfl) (by kernel_rfl) (fun _ _ _ h => h) (Or.inl ⟨by rfl, ?_⟩) (by assumption) ?_
    rotate_left
    · intro w hSw; (try dsimp only at hSw); go_simp; try with_reducible rfl
    simp only [Act.put, List.setIfInBounds_toArray, List.set_cons_zero, List.set_cons_succ]
    refine wpAnyH_take (i := 53) (oi := ⟨some 189, _, _, _, _, _⟩) (v := ?_) rfl (by kernel_rfl) (by kernel_rfl) (by kernel_rfl) (fun _ _ _ h => h) (Or.inl ⟨by rfl, ?_⟩) (by assumption) ?_
    rotate_left
    · intro w hSw; (try dsimp only at hSw); go_simp; try with_reducible rfl
    simp only [Act.put, List.setIfInBounds_toArray, List.set_cons_zero, List.set_cons_succ]
    refine wpAnyH_take (i := 54) (oi := ⟨some 6, _, _, _, _, _⟩) (v := ?_) rfl (by kernel_rfl) (by kernel_rfl) (by kernel_rfl) (fun _ _ _ h => h) (Or.inl ⟨by rfl, ?_⟩) (by assumption) ?_
    rotate_left
    · intro w hSw; (try dsimp only at hSw); go_simp; try with_reducible rfl
    simp only [Act.put, List.setIfInBounds_toArray, List.set_cons_zero, List.set_cons_succ]
    refine wpAnyH_done (by kernel_rfl) ?_ _
    have H := KH.out _ hHeld
    clear KS KH hHeld
    go_wp2
    go_ret
    exact ⟨rfl, H.old⟩
end Go.Proofs.Ytcpifgoglcoeeaa
