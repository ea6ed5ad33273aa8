/- ActualYears: the walk. -/
import Derived.Test.YtobdimekjhdefaaDoorAcShown
namespace Go.Proofs.YtobdimekjhdefaaDoor
open Go.RowKit
set_option linter.unusedVariables false
set_option linter.unusedSimpArgs false

theorem may_first (p : Int) (h1 : 1 ≤ p) (h2 : p ≤ 9999) : may p 1 1 := ⟨h1, h2, by decide, by decide, by decide, by have := ln_ge p 1 (by decide) (by decide); omega⟩
theorem nb_first (p : Int) : nb p 1 1 = ah p + 1 := by unfold nb; rw [am_one]; omega
theorem lv_first (p : Int) : lv p 1 1 = 366 * ly p := by unfold lv; rw [am_one]; split <;> omega
theorem years_whole (p k : Int) : yX p 1 1 (p + k) 1 1 = 133590 * k := by
  have a := ly_ah p
  have b := ly_ah (p + k)
  unfold yX inX
  rw [lv_first, lv_first, nb_first, nb_first]
  omega
theorem year_part (p l h y1 m1 d1 y2 m2 d2 : Int) (l0 : 0 ≤ l) (lh : l ≤ h) (hn : h ≤ yl p) (h1 : may y1 m1 d1) (e1 : nb y1 m1 d1 = ah p + 1 + l) (h2 : may y2 m2 d2) (e2 : nb y2 m2 d2 = ah p + 1 + h) :
    yX y1 m1 d1 y2 m2 d2 = if lp p = true then 365 * (h - l) else 366 * (h - l) := by
  have a := lv_at p (l + 1) y1 m1 d1 h1 (by omega) (by omega) (by omega)
  have b := lv_at p (h + 1) y2 m2 d2 h2 (by omega) (by omega) (by omega)
  unfold yX inX
  rw [a, b, e1, e2]
  split <;> omega
theorem whole_is (k : Int) (h0 : 0 ≤ k) (h1 : k ≤ 1000) : rN (133590 * k) 133590 = k ∧ rD (133590 * k) 133590 = 1 := by
  have e := r_eq (n := 133590 * k) (d := 133590) (n' := k) (d' := 1) (by decide) (by decide) (by omega)
  have s := r_self (n := k) (d := 1) (by rw [right_iff]; refine ⟨h0, by omega, by omega, by omega, ?_⟩; unfold gi; rw [Int.gcd_one_right]; rfl)
  exact ⟨e.1.trans s.1, e.2.1.trans s.2.1⟩

set_option maxHeartbeats 4000000 in
set_option maxRecDepth 100000 in
theorem ayears_true (K : Ways) (y m i j p k a b l r h u v : Int) (w : World) (hL : Facts w) (by0 : 0 ≤ y ∧ y < 65536) (bm0 : 0 ≤ m ∧ m < 65536) (bi0 : 0 ≤ i ∧ i < 65536) (bj0 : 0 ≤ j ∧ j < 65536) (hp : 1 + y % 9000 = p) (hk : m % 990 = k) (ha : nN p 1 1 = a) (hb : nN (p + k) 1 1 = b) (hl : lp p = true) (w0 : AcIs yX 133590 a b k 1 0) (ho : i % 367 = l) (hr : j % (367 - l) = r) (hh : l + r = h) (w1 : AcIs yX 133590 (a + l) (a + h) u v 0) (hw : rN (h - l) 366 = u ∧ rD (h - l) 366 = v ∧ rE (h - l) 366 = 0) (pb : 1 ≤ p ∧ p ≤ 9000) (kb : 0 ≤ k ∧ k ≤ 989) (lb : 0 ≤ l ∧ l ≤ 366) (rb : 0 ≤ r ∧ r ≤ 366) (hq : 0 ≤ h - l ∧ h ≤ 366) (ab : 1 ≤ a ∧ a + 400 ≤ 3652059) :
    Calls Tryd.prog 5 #[.agg #[.int .u16 y, .int .u16 m, .int .u16 i, .int .u16 j]] w fun e w' => e = .returned (.bool true) ∧ Below w.heap.size w w' := by
  have H := (Held.start w).add (f := factsF) hL
  clear hL
  have wh : wrap64 (l + r) = h := by unfold wrap64; omega
  have wa : wrap64 (a + h) = a + h := by unfold wrap64; omega
  have WH := Lib.hid wh
  have WA := Lib.hid wa
  have HP := Lib.hid hp
  have HK := Lib.hid hk
  have HA := Lib.hid ha
  have HB := Lib.hid hb
  have HLP := Lib.hid hl
  have W0 := Lib.hid w0
  have HO := Lib.hid ho
  have HR := Lib.hid hr
  have HH := Lib.hid hh
  have W1 := Lib.hid w1
  have HW := Lib.hid hw
  clear hp hk ha hb hl w0 ho hr hh w1 hw wh wa
  go_enter Tryd.func5, Tryd.ntmps5
  go_wp2_with fail
  replace H := (H.alloc (.cells #[.int .u16 y, .int .u16 m, .int .u16 i, .int .u16 j] 36))
  (with_reducible refine (ashown_any K _ (H.facts (List.Mem.head _))).mono ?_)
  rintro e w1 ⟨rfl, hb⟩
  replace H := H.below hb
  clear hb
  go_wp2_with fail
  rw [HP.out, HK.out]
  (with_reducible refine (lday8_is p 1 1 a _ HA.out).mono ?_)
  rintro e w2 ⟨rfl, hb⟩
  replace H := H.below hb
  clear hb
  go_wp2_with fail
  (with_reducible refine (lday8_is (p + k) 1 1 b _ HB.out).mono ?_)
  rintro e w3 ⟨rfl, hb⟩
  replace H := H.below hb
  clear hb
  go_wp2_with fail
  (with_reducible refine (K.byyears a b k 1 0 _ (H.facts (List.Mem.head _)) W0.out).mono ?_)
  rintro e w4 ⟨rfl, hb⟩
  replace H := H.below hb
  clear hb
  go_wp2_with fail
  replace H := (H.pair (w4.heap.size) (.int .i64 k) (.int .i64 1) 24 rfl)
  (with_reducible refine (rleap_is p true _ HLP.out).mono ?_)
  rintro e w5 ⟨rfl, hb⟩
  replace H := H.below hb
  clear hb
  go_wp2_with fail
  rw [HO.out, HR.out, WH.out, WA.out]
  (with_reducible refine (K.byyears (a + l) (a + h) u v 0 _ (H.facts (List.Mem.tail _ (List.Mem.tail _ (List.Mem.tail _ (List.Mem.tail _ (List.Mem.head _)))))) W1.out).mono ?_)
  rintro e w6 ⟨rfl, hb⟩
  replace H := H.below hb
  clear hb
  go_wp2_with fail
  replace H := (H.pair (w6.heap.size) (.int .i64 u) (.int .i64 v) 24 rfl)
  (with_reducible refine (refnew8_is (h - l) 366 u v 0 _ (by omega) (by omega) (by decide) (by decide) HW.out).mono ?_)
  rintro e w7 ⟨rfl, hb⟩
  replace H := H.below hb
  clear hb
  have cz0 := H.cell (w6.heap.size) 0 (.int .i64 u) (List.Mem.head _)
  have cz1 := H.cell (w6.heap.size) 1 (.int .i64 v) (List.Mem.tail _ (List.Mem.head _))
  have lz := H.lt (w6.heap.size) 0 (.int .i64 u) (List.Mem.head _)
  go_wp2_with fail
  clear cz0 cz1 lz
  replace H := (H.pair (w7.heap.size) (.int .i64 u) (.int .i64 v) 24 rfl)
  go_ret
  exact ⟨rfl, H.old⟩

set_option maxHeartbeats 4000000 in
set_option maxRecDepth 100000 in
theorem ayears_false (K : Ways) (y m i j p k a b l r h u v : Int) (w : World) (hL : Facts w) (by0 : 0 ≤ y ∧ y < 65536) (bm0 : 0 ≤ m ∧ m < 65536) (bi0 : 0 ≤ i ∧ i < 65536) (bj0 : 0 ≤ j ∧ j < 65536) (hp : 1 + y % 9000 = p) (hk : m % 990 = k) (ha : nN p 1 1 = a) (hb : nN (p + k) 1 1 = b) (hl : lp p = false) (w0 : AcIs yX 133590 a b k 1 0) (ho : i % 366 = l) (hr : j % (366 - l) = r) (hh : l + r = h) (w1 : AcIs yX 133590 (a + l) (a + h) u v 0) (hw : rN (h - l) 365 = u ∧ rD (h - l) 365 = v ∧ rE (h - l) 365 = 0) (pb : 1 ≤ p ∧ p ≤ 9000) (kb : 0 ≤ k ∧ k ≤ 989) (lb : 0 ≤ l ∧ l ≤ 365) (rb : 0 ≤ r ∧ r ≤ 365) (hq : 0 ≤ h - l ∧ h ≤ 365) (ab : 1 ≤ a ∧ a + 400 ≤ 3652059) :
    Calls Tryd.prog 5 #[.agg #[.int .u16 y, .int .u16 m, .int .u16 i, .int .u16 j]] w fun e w' => e = .returned (.bool true) ∧ Below w.heap.size w w' := by
  have H := (Held.start w).add (f := factsF) hL
  clear hL
  have wh : wrap64 (l + r) = h := by unfold wrap64; omega
  have wa : wrap64 (a + h) = a + h := by unfold wrap64; omega
  have WH := Lib.hid wh
  have WA := Lib.hid wa
  have HP := Lib.hid hp
  have HK := Lib.hid hk
  have HA := Lib.hid ha
  have HB := Lib.hid hb
  have HLP := Lib.hid hl
  have W0 := Lib.hid w0
  have HO := Lib.hid ho
  have HR := Lib.hid hr
  have HH := Lib.hid hh
  have W1 := Lib.hid w1
  have HW := Lib.hid hw
  clear hp hk ha hb hl w0 ho hr hh w1 hw wh wa
  go_enter Tryd.func5, Tryd.ntmps5
  go_wp2_with fail
  replace H := (H.alloc (.cells #[.int .u16 y, .int .u16 m, .int .u16 i, .int .u16 j] 36))
  (with_reducible refine (ashown_any K _ (H.facts (List.Mem.head _))).mono ?_)
  rintro e w1 ⟨rfl, hb⟩
  replace H := H.below hb
  clear hb
  go_wp2_with fail
  rw [HP.out, HK.out]
  (with_reducible refine (lday8_is p 1 1 a _ HA.out).mono ?_)
  rintro e w2 ⟨rfl, hb⟩
  replace H := H.below hb
  clear hb
  go_wp2_with fail
  (with_reducible refine (lday8_is (p + k) 1 1 b _ HB.out).mono ?_)
  rintro e w3 ⟨rfl, hb⟩
  replace H := H.below hb
  clear hb
  go_wp2_with fail
  (with_reducible refine (K.byyears a b k 1 0 _ (H.facts (List.Mem.head _)) W0.out).mono ?_)
  rintro e w4 ⟨rfl, hb⟩
  replace H := H.below hb
  clear hb
  go_wp2_with fail
  replace H := (H.pair (w4.heap.size) (.int .i64 k) (.int .i64 1) 24 rfl)
  (with_reducible refine (rleap_is p false _ HLP.out).mono ?_)
  rintro e w5 ⟨rfl, hb⟩
  replace H := H.below hb
  clear hb
  go_wp2_with fail
  rw [HO.out, HR.out, WH.out, WA.out]
  (with_reducible refine (K.byyears (a + l) (a + h) u v 0 _ (H.facts (List.Mem.tail _ (List.Mem.tail _ (List.Mem.tail _ (List.Mem.tail _ (List.Mem.head _)))))) W1.out).mono ?_)
  rintro e w6 ⟨rfl, hb⟩
  replace H := H.below hb
  clear hb
  go_wp2_with fail
  replace H := (H.pair (w6.heap.size) (.int .i64 u) (.int .i64 v) 24 rfl)
  (with_reducible refine (refnew8_is (h - l) 365 u v 0 _ (by omega) (by omega) (by decide) (by decide) HW.out).mono ?_)
  rintro e w7 ⟨rfl, hb⟩
  replace H := H.below hb
  clear hb
  have cz0 := H.cell (w6.heap.size) 0 (.int .i64 u) (List.Mem.head _)
  have cz1 := H.cell (w6.heap.size) 1 (.int .i64 v) (List.Mem.tail _ (List.Mem.head _))
  have lz := H.lt (w6.heap.size) 0 (.int .i64 u) (List.Mem.head _)
  go_wp2_with fail
  clear cz0 cz1 lz
  replace H := (H.pair (w7.heap.size) (.int .i64 u) (.int .i64 v) 24 rfl)
  go_ret
  exact ⟨rfl, H.old⟩

theorem ayears_walk (K : Ways) (y m i j : Int) (w : World) (hL : Facts w) (by0 : 0 ≤ y ∧ y < 65536) (bm0 : 0 ≤ m ∧ m < 65536) (bi0 : 0 ≤ i ∧ i < 65536) (bj0 : 0 ≤ j ∧ j < 65536) :
    Calls Tryd.prog 5 #[.agg #[.int .u16 y, .int .u16 m, .int .u16 i, .int .u16 j]] w fun e w' => e = .returned (.bool true) ∧ Below w.heap.size w w' := by
  obtain ⟨p, hp⟩ : ∃ p, 1 + y % 9000 = p := ⟨_, rfl⟩
  obtain ⟨k, hk⟩ : ∃ k, m % 990 = k := ⟨_, rfl⟩
  have pb : 1 ≤ p ∧ p ≤ 9000 := by omega
  have kb : 0 ≤ k ∧ k ≤ 989 := by omega
  have mp := may_first p (by omega) (by omega)
  have mq := may_first (p + k) (by omega) (by omega)
  have na := (n_yes mp).1
  have nb' := (n_yes mq).1
  have ea := nb_first p
  have eb := nb_first (p + k)
  have le := ah_le p (p + k) (by omega)
  have top := ah_le p 10000 (by omega)
  have bd := ah_bd p (by omega) (by omega)
  have yb := yl_bd p
  rw [ah_end] at top
  have wk := whole_is k (by omega) (by omega)
  have yw := years_whole p k
  have W0 : AcIs yX 133590 (nb p 1 1) (nb (p + k) 1 1) k 1 0 := ac_in p 1 1 (p + k) 1 1 mp rfl mq rfl (by omega) (by rw [yw]; exact wk.1) (by rw [yw]; exact wk.2)
  have key : ∀ N : Int, yl p = N → 0 < N + 1 → ∃ l r h u v, i % (N + 1) = l ∧ j % (N + 1 - l) = r ∧ l + r = h ∧ AcIs yX 133590 (nb p 1 1 + l) (nb p 1 1 + h) u v 0 ∧ (rN (h - l) N = u ∧ rD (h - l) N = v ∧ rE (h - l) N = 0) ∧ (0 ≤ l ∧ l ≤ N) ∧ (0 ≤ r ∧ r ≤ N) ∧ (0 ≤ h - l ∧ h ≤ N) := by
    intro N hN n0
    have l0 := Int.emod_nonneg i (show N + 1 ≠ 0 by omega)
    have l1 := Int.emod_lt_of_pos i (show 0 < N + 1 by omega)
    obtain ⟨l, hl⟩ : ∃ l, i % (N + 1) = l := ⟨_, rfl⟩
    rw [hl] at l0 l1
    have r0 := Int.emod_nonneg j (show N + 1 - l ≠ 0 by omega)
    have r1 := Int.emod_lt_of_pos j (show 0 < N + 1 - l by omega)
    obtain ⟨r, hr⟩ : ∃ r, j % (N + 1 - l) = r := ⟨_, rfl⟩
    rw [hr] at r0 r1
    obtain ⟨y1, m1, d1, a1, a2⟩ := day_of (nb p 1 1 + l) (by omega) (by omega)
    obtain ⟨y2, m2, d2, b1, b2⟩ := day_of (nb p 1 1 + (l + r)) (by omega) (by omega)
    have yx := year_part p l (l + r) y1 m1 d1 y2 m2 d2 (by omega) (by omega) (by omega) a1 (by omega) b1 (by omega)
    have f := (r_yes (fit_den (l + r - l) N (by omega) (by omega) (by omega) (by omega))).2.2
    have e : yX y1 m1 d1 y2 m2 d2 * N = (l + r - l) * 133590 := by
      rw [yx, ← hN]; unfold yl
      split <;> omega
    have q := r_eq (show (0 : Int) < 133590 by decide) (show 0 < N by omega) e
    exact ⟨l, r, l + r, rN (l + r - l) N, rD (l + r - l) N, hl, hr, rfl, ac_in y1 m1 d1 y2 m2 d2 a1 a2 b1 b2 (by omega) q.1 q.2.1, ⟨rfl, rfl, f⟩, by omega, by omega, by omega⟩
  cases hl : lp p with
  | true =>
    obtain ⟨l, r, h, u, v, q1, q2, q3, q4, q5, q6, q7, q8⟩ := key 366 (by unfold yl; rw [if_pos hl]) (by decide)
    exact ayears_true K y m i j p k _ _ l r h u v w hL by0 bm0 bi0 bj0 hp hk na nb' hl W0 q1 q2 q3 q4 q5 pb kb q6 q7 q8 (by omega)
  | false =>
    obtain ⟨l, r, h, u, v, q1, q2, q3, q4, q5, q6, q7, q8⟩ := key 365 (by unfold yl; rw [hl]; rfl) (by decide)
    exact ayears_false K y m i j p k _ _ l r h u v w hL by0 bm0 bi0 bj0 hp hk na nb' hl W0 q1 q2 q3 q4 q5 pb kb q6 q7 q8 (by omega)
end Go.Proofs.YtobdimekjhdefaaDoor
