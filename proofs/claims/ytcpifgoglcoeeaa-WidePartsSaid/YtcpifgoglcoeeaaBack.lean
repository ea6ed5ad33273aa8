/- WideBack: the walk of the statement's Go text. -/
import Derived.Test.YtcpifgoglcoeeaaLawKit
import Derived.Test.YtcpifgoglcoeeaaMuls
namespace Go.Proofs.Ytcpifgoglcoeeaa
open Go.RowKit

theorem two_alloc {w W : World} {p q : Nat} {u0 u1 v0 v1 : Value} {o : Obj}
    (h : W.cell? ⟨p, 0, none⟩ = some u0 ∧ W.cell? ⟨p, 1, none⟩ = some u1 ∧ W.cell? ⟨q, 0, none⟩ = some v0 ∧ W.cell? ⟨q, 1, none⟩ = some v1 ∧ p < W.heap.size ∧ q < W.heap.size ∧ Below w.heap.size w W) :
    (W.alloc o).cell? ⟨p, 0, none⟩ = some u0 ∧ (W.alloc o).cell? ⟨p, 1, none⟩ = some u1 ∧ (W.alloc o).cell? ⟨q, 0, none⟩ = some v0 ∧ (W.alloc o).cell? ⟨q, 1, none⟩ = some v1 ∧ p < (W.alloc o).heap.size ∧ q < (W.alloc o).heap.size ∧ Below w.heap.size w (W.alloc o) := by
  obtain ⟨a, b, c, d, e, f, g⟩ := h
  exact ⟨new_cell a e, new_cell b e, new_cell c f, new_cell d f, by simp; omega, by simp; omega, g.alloc g.size o⟩

theorem two_set {w W : World} {p q b k : Nat} {u0 u1 v0 v1 v : Value}
    (h : W.cell? ⟨p, 0, none⟩ = some u0 ∧ W.cell? ⟨p, 1, none⟩ = some u1 ∧ W.cell? ⟨q, 0, none⟩ = some v0 ∧ W.cell? ⟨q, 1, none⟩ = some v1 ∧ p < W.heap.size ∧ q < W.heap.size ∧ Below w.heap.size w W) (hp : p < b) (hq : q < b) (hw : w.heap.size ≤ b) :
    (W.setCell ⟨b, k, none⟩ v).cell? ⟨p, 0, none⟩ = some u0 ∧ (W.setCell ⟨b, k, none⟩ v).cell? ⟨p, 1, none⟩ = some u1 ∧ (W.setCell ⟨b, k, none⟩ v).cell? ⟨q, 0, none⟩ = some v0 ∧ (W.setCell ⟨b, k, none⟩ v).cell? ⟨q, 1, none⟩ = some v1 ∧ p < (W.setCell ⟨b, k, none⟩ v).heap.size ∧ q < (W.setCell ⟨b, k, none⟩ v).heap.size ∧ Below w.heap.size w (W.setCell ⟨b, k, none⟩ v) := by
  obtain ⟨a0, b0, c0, d0, e0, f0, g0⟩ := h
  have hb : Below b W (W.setCell ⟨b, k, none⟩ v) := Below.setCell (p := ⟨b, k, none⟩) (Below.refl b W) (Nat.le_refl b) v
  have hs := hb.size
  exact ⟨(hb.cell (p := ⟨p, 0, none⟩) hp).trans a0, (hb.cell (p := ⟨p, 1, none⟩) hp).trans b0, (hb.cell (p := ⟨q, 0, none⟩) hq).trans c0, (hb.cell (p := ⟨q, 1, none⟩) hq).trans d0, by omega, by omega, g0.setCell hw v⟩

theorem cmp_ge (a b : Int) (h : b ≤ a) : decide (cmpI a b < 0) = false := by
  rw [decide_eq_false_iff_not]; unfold cmpI; rw [if_neg (by omega)]; split <;> omega

theorem two_new {w W : World} {p : Nat} {u0 u1 v0 v1 : Value} {t : TypeId} (a : W.cell? ⟨p, 0, none⟩ = some u0) (b : W.cell? ⟨p, 1, none⟩ = some u1) (e : p < W.heap.size) (g : Below w.heap.size w W) :
    (W.alloc (.cells #[v0, v1] t)).cell? ⟨p, 0, none⟩ = some u0 ∧ (W.alloc (.cells #[v0, v1] t)).cell? ⟨p, 1, none⟩ = some u1 ∧ (W.alloc (.cells #[v0, v1] t)).cell? ⟨W.heap.size, 0, none⟩ = some v0 ∧ (W.alloc (.cells #[v0, v1] t)).cell? ⟨W.heap.size, 1, none⟩ = some v1 ∧
      p < (W.alloc (.cells #[v0, v1] t)).heap.size ∧ W.heap.size < (W.alloc (.cells #[v0, v1] t)).heap.size ∧ Below w.heap.size w (W.alloc (.cells #[v0, v1] t)) :=
  ⟨new_cell a e, new_cell b e, by simp [World.cell?_alloc_new], by simp [World.cell?_alloc_new], by simp; omega, by simp, g.alloc g.size _⟩
theorem two_drew {w W : World} {p q : Nat} {u0 u1 v0 v1 : Value}
    (h : W.cell? ⟨p, 0, none⟩ = some u0 ∧ W.cell? ⟨p, 1, none⟩ = some u1 ∧ W.cell? ⟨q, 0, none⟩ = some v0 ∧ W.cell? ⟨q, 1, none⟩ = some v1 ∧ p < W.heap.size ∧ q < W.heap.size ∧ Below w.heap.size w W) :
    W.drew.cell? ⟨p, 0, none⟩ = some u0 ∧ W.drew.cell? ⟨p, 1, none⟩ = some u1 ∧ W.drew.cell? ⟨q, 0, none⟩ = some v0 ∧ W.drew.cell? ⟨q, 1, none⟩ = some v1 ∧ p < W.drew.heap.size ∧ q < W.drew.heap.size ∧ Below w.heap.size w W.drew := by
  obtain ⟨a, b, c, d, e, f, g⟩ := h
  exact ⟨a, b, c, d, e, f, g.drew⟩

/-- The quotient times the divisor, and the rest, added: the number. -/
theorem add_back (N n xh xl : Int) (w : World) (hN : N = wn xh xl) (xl0 : 0 ≤ xl) (xl1 : xl < 18446744073709551616) (d0 : 0 ≤ N / n) (n0 : 0 ≤ n) (n1 : n < 18446744073709551616) (hn : 0 < n) (X1 : N < top) :
    Calls Try.prog 15 #[.agg #[.int .u64 (hi (N / n * n)), .int .u64 (lo (N / n * n))], .agg #[.int .u64 0, .int .u64 (N % n)]] w fun e w' => e = .returned (.tuple #[.agg #[.int .u64 xh, .int .u64 xl], .int .i64 0]) ∧ Below w.heap.size w w' := by
  have m0 : 0 ≤ N % n := Int.emod_nonneg _ (by omega)
  have m1 : N % n < n := Int.emod_lt_of_pos _ hn
  have e := Int.mul_ediv_add_emod N n
  have p0 : 0 ≤ N / n * n := Int.mul_nonneg d0 n0
  have p1 : N / n * n < top := by have := Int.ediv_mul_le N (show n ≠ 0 by omega); omega
  have es : wn (hi (N / n * n)) (lo (N / n * n)) + wn 0 (N % n) = N := by rw [wn_hi_lo, wn0, Int.mul_comm]; exact e
  have h := add_yes (hi (N / n * n)) (lo (N / n * n)) 0 (N % n) w (lo_bd _).1 (lo_bd _).2 (hi_bd _ p0 p1).1 (hi_bd _ p0 p1).2 m0 (by omega) (by decide) (by decide) (by rw [es]; exact X1)
  rw [es, hN, hi_wn xh xl xl0 xl1, lo_wn xh xl xl0 xl1] at h
  rw [hN]
  exact h

set_option maxHeartbeats 4000000 in
set_option maxRecDepth 100000 in
theorem back_yes_fits (xh xl yh yl n : Int) (w : World) (xh0 : 0 ≤ xh) (xh1 : xh < 18446744073709551616) (xl0 : 0 ≤ xl) (xl1 : xl < 18446744073709551616)
    (yh0 : 0 ≤ yh) (yh1 : yh < 18446744073709551616) (yl0 : 0 ≤ yl) (yl1 : yl < 18446744073709551616) (n0 : 0 ≤ n) (n1 : n < 18446744073709551616) (hs : wn xh xl + wn yh yl < top) (hn : 0 < n) (hp : wn xh xl * n < top) :
    Calls Try.prog 5 #[.agg #[.int .u64 xh, .int .u64 xl], .agg #[.int .u64 yh, .int .u64 yl], .int .u64 n] w fun e w' => e = .returned (.bool true) ∧ Below w.heap.size w w' := by
  obtain ⟨X0, X1⟩ := wn_bd xh xl xh0 xh1 xl0 xl1
  obtain ⟨Y0, Y1⟩ := wn_bd yh yl yh0 yh1 yl0 yl1
  have S0 : 0 ≤ wn xh xl + wn yh yl := by omega
  have t1 : (n == 0) = false := beq_eq_false_iff_ne.2 (by omega)
  have d0 : 0 ≤ wn xh xl / n := Int.ediv_nonneg X0 n0
  have d2 : wn xh xl / n * n ≤ wn xh xl := Int.ediv_mul_le _ (by omega)
  have d3 : wn xh xl / n ≤ wn xh xl := by have := Int.ediv_le_self n X0; omega
  have d1 : wn xh xl / n < top := by omega
  have m0 : 0 ≤ wn xh xl % n := Int.emod_nonneg _ (by omega)
  have m1 : wn xh xl % n < n := Int.emod_lt_of_pos _ hn
  have DM := Lib.hid (Int.mul_ediv_add_emod (wn xh xl) n)
  have P0 : 0 ≤ wn xh xl / n * n := Int.mul_nonneg d0 n0
  go_enter Try.func5, Try.ntmps5
  go_wp2_with fail
  refine (shown_any _).mono ?_
  rintro e w1 ⟨rfl, hb1⟩
  obtain ⟨cx0, cx1, cy0, cy1, lcx, lcy, B1⟩ := boxes2 hb1
  clear hb1
  go_wp2_with fail
  refine (add_yes xh xl yh yl _ xl0 xl1 xh0 xh1 yl0 yl1 yh0 yh1 hs).mono ?_
  rintro e w2 ⟨rfl, hb2⟩
  have g2 := sizeB hb2
  have B2 := stepC B1 hb2
  replace cx0 := keep hb2 (by omega) cx0
  replace cx1 := keep hb2 (by omega) cx1
  replace cy0 := keep hb2 (by omega) cy0
  replace cy1 := keep hb2 (by omega) cy1
  replace lcx : w.heap.size < w2.heap.size := by omega
  replace lcy : w.heap.size + 1 < w2.heap.size := by omega
  clear hb2 g2 B1
  have DE := Lib.hid (show wn xh xl + wn yh yl - wn yh yl = wn xh xl by omega)
  go_wp2_with fail
  refine (sub_yes (hi (wn xh xl + wn yh yl)) (lo (wn xh xl + wn yh yl)) yh yl _ (lo_bd _).1 (lo_bd _).2 (hi_bd _ S0 hs).1 (hi_bd _ S0 hs).2 yl0 yl1 yh0 yh1 (by rw [wn_hi_lo]; omega)).mono ?_
  rw [wn_hi_lo, DE.out, hi_wn xh xl xl0 xl1, lo_wn xh xl xl0 xl1]
  rintro e w3 ⟨rfl, hb3⟩
  have g3 := growA hb3
  have B3 := stepA B2 hb3
  replace cx0 := keepA hb3 (by omega) cx0
  replace cx1 := keepA hb3 (by omega) cx1
  replace cy0 := keepA hb3 (by omega) cy0
  replace cy1 := keepA hb3 (by omega) cy1
  replace lcx : w.heap.size < w3.heap.size := by omega
  replace lcy : w.heap.size + 1 < w3.heap.size := by omega
  obtain ⟨cs0, cs1⟩ := own2 hb3
  have lcs : w2.heap.size < w3.heap.size := g3
  clear hb3 g3 B2
  have ge := cmp_ge (wn xh xl + wn yh yl) (wn xh xl) (by omega)
  go_wp2_with fail
  refine (cmp_any (hi (wn xh xl + wn yh yl)) (lo (wn xh xl + wn yh yl)) xh xl _ (lo_bd _).1 (lo_bd _).2 xl0 xl1).mono ?_
  rw [wn_hi_lo]
  rintro e w4 ⟨rfl, hb4⟩
  have g4 := growA hb4
  have B4 := stepA B3 hb4
  replace cx0 := keepA hb4 (by omega) cx0
  replace cx1 := keepA hb4 (by omega) cx1
  replace cy0 := keepA hb4 (by omega) cy0
  replace cy1 := keepA hb4 (by omega) cy1
  replace cs0 := keepA hb4 (by omega) cs0
  replace cs1 := keepA hb4 (by omega) cs1
  replace lcx : w.heap.size < w4.heap.size := by omega
  replace lcy : w.heap.size + 1 < w4.heap.size := by omega
  replace lcs : w2.heap.size < w4.heap.size := by omega
  clear hb4 g4 B3
  have T0 : 0 ≤ wn xh xl * n := Int.mul_nonneg X0 n0
  go_wp2_with fail
  refine (times_yes xh xl n _ xl0 xl1 xh0 xh1 n0 n1 hp).mono ?_
  rintro e w5 ⟨rfl, hb5⟩
  have g5 := sizeB hb5
  have B5 := stepC B4 hb5
  replace cx0 := keep hb5 (by omega) cx0
  replace cx1 := keep hb5 (by omega) cx1
  replace cy0 := keep hb5 (by omega) cy0
  replace cy1 := keep hb5 (by omega) cy1
  replace cs0 := keep hb5 (by omega) cs0
  replace cs1 := keep hb5 (by omega) cs1
  replace lcx : w.heap.size < w5.heap.size := by omega
  replace lcy : w.heap.size + 1 < w5.heap.size := by omega
  replace lcs : w2.heap.size < w5.heap.size := by omega
  clear hb5 g5 B4
  have QE := Lib.hid (show wn xh xl * n / n = wn xh xl from Int.mul_ediv_cancel _ (by omega))
  have RE := Lib.hid (show wn xh xl * n % n = 0 from Int.mul_emod_left _ _)
  go_wp2_with fail
  refine (div_yes (hi (wn xh xl * n)) (lo (wn xh xl * n)) n _ (lo_bd _).1 (lo_bd _).2 (hi_bd _ T0 hp).1 (hi_bd _ T0 hp).2 hn n1).mono ?_
  rw [wn_hi_lo, QE.out, RE.out, hi_wn xh xl xl0 xl1, lo_wn xh xl xl0 xl1]
  rintro e w6 ⟨rfl, hb6⟩
  have g6 := growA hb6
  have B6 := stepA B5 hb6
  replace cx0 := keepA hb6 (by omega) cx0
  replace cx1 := keepA hb6 (by omega) cx1
  replace cy0 := keepA hb6 (by omega) cy0
  replace cy1 := keepA hb6 (by omega) cy1
  replace cs0 := keepA hb6 (by omega) cs0
  replace cs1 := keepA hb6 (by omega) cs1
  replace lcx : w.heap.size < w6.heap.size := by omega
  replace lcy : w.heap.size + 1 < w6.heap.size := by omega
  replace lcs : w2.heap.size < w6.heap.size := by omega
  clear hb6 g6 B5
  go_wp2_with fail
  refine (div_yes xh xl n _ xl0 xl1 xh0 xh1 hn n1).mono ?_
  rintro e w7 ⟨rfl, hb7⟩
  have g7 := growA hb7
  have B7 := stepA B6 hb7
  replace cx0 := keepA hb7 (by omega) cx0
  replace cx1 := keepA hb7 (by omega) cx1
  replace cy0 := keepA hb7 (by omega) cy0
  replace cy1 := keepA hb7 (by omega) cy1
  replace cs0 := keepA hb7 (by omega) cs0
  replace cs1 := keepA hb7 (by omega) cs1
  replace lcx : w.heap.size < w7.heap.size := by omega
  replace lcy : w.heap.size + 1 < w7.heap.size := by omega
  replace lcs : w2.heap.size < w7.heap.size := by omega
  clear hb7 g7 B6
  go_wp2_with fail
  refine (times_yes (hi (wn xh xl / n)) (lo (wn xh xl / n)) n _ (lo_bd _).1 (lo_bd _).2 (hi_bd _ d0 d1).1 (hi_bd _ d0 d1).2 n0 n1 (by rw [wn_hi_lo]; omega)).mono ?_
  rw [wn_hi_lo]
  rintro e w8 ⟨rfl, hb8⟩
  have g8 := growA hb8
  have B8 := stepA B7 hb8
  replace cx0 := keepA hb8 (by omega) cx0
  replace cx1 := keepA hb8 (by omega) cx1
  replace cy0 := keepA hb8 (by omega) cy0
  replace cy1 := keepA hb8 (by omega) cy1
  replace cs0 := keepA hb8 (by omega) cs0
  replace cs1 := keepA hb8 (by omega) cs1
  replace lcx : w.heap.size < w8.heap.size := by omega
  replace lcy : w.heap.size + 1 < w8.heap.size := by omega
  replace lcs : w2.heap.size < w8.heap.size := by omega
  clear hb8 g8 B7
  go_wp2_with fail
  have HS0 := Lib.hid (two_new (v0 := .int .u64 (hi (wn xh xl / n * n))) (v1 := .int .u64 (lo (wn xh xl / n * n))) (t := 24) cx0 cx1 lcx B8)
  have HS := Lib.hid (two_drew HS0.out)
  go_region_held3 (fun w' => w'.cell? ⟨w.heap.size, 0, none⟩ = some (.int .u64 xh) ∧ w'.cell? ⟨w.heap.size, 1, none⟩ = some (.int .u64 xl) ∧ w'.cell? ⟨w8.heap.size, 0, none⟩ = some (.int .u64 (hi (wn xh xl / n * n))) ∧ w'.cell? ⟨w8.heap.size, 1, none⟩ = some (.int .u64 (lo (wn xh xl / n * n))) ∧
        w.heap.size < w'.heap.size ∧ w8.heap.size < w'.heap.size ∧ Below w.heap.size w w') (first | exact HS.out | exact two_drew (two_alloc HS0.out) | (refine two_kept ?_ hb; assumption) | (refine two_alloc ?_; assumption) | (refine two_alloc (two_kept (two_kept HS.out ?_) hb); assumption) | (refine two_set (two_set ?_ ?_ ?_ ?_) ?_ ?_ ?_; (assumption); (omega); (omega); (omega); (omega); (omega); omega))
      (first
        | (go_at_call 21; refine (of_any _ _).mono ?_; rintro e w' ⟨rfl, hb⟩; obtain ⟨hc, hf⟩ := bcell hb; have hz := hb.size; (try simp at hz); (try have hlt : w8.heap.size + 1 < w'.heap.size := by omega))
        | (go_at_call 15; refine (add_back (wn xh xl) n xh xl _ rfl xl0 xl1 d0 n0 n1 hn X1).mono ?_; rintro e w' ⟨rfl, hb⟩; obtain ⟨hc, hf⟩ := bcell hb; have hz := hb.size; (try simp at hz); (try have hlt : w8.heap.size + 1 < w'.heap.size := by omega)))
  all_goals
    go_wp2_with fail
    go_ret
    exact ⟨rfl, two_last (by assumption)⟩

set_option maxHeartbeats 4000000 in
set_option maxRecDepth 100000 in
theorem back_yes_over (xh xl yh yl n : Int) (w : World) (xh0 : 0 ≤ xh) (xh1 : xh < 18446744073709551616) (xl0 : 0 ≤ xl) (xl1 : xl < 18446744073709551616)
    (yh0 : 0 ≤ yh) (yh1 : yh < 18446744073709551616) (yl0 : 0 ≤ yl) (yl1 : yl < 18446744073709551616) (n0 : 0 ≤ n) (n1 : n < 18446744073709551616) (hs : wn xh xl + wn yh yl < top) (hn : 0 < n) (hp : top ≤ wn xh xl * n) :
    Calls Try.prog 5 #[.agg #[.int .u64 xh, .int .u64 xl], .agg #[.int .u64 yh, .int .u64 yl], .int .u64 n] w fun e w' => e = .returned (.bool true) ∧ Below w.heap.size w w' := by
  obtain ⟨X0, X1⟩ := wn_bd xh xl xh0 xh1 xl0 xl1
  obtain ⟨Y0, Y1⟩ := wn_bd yh yl yh0 yh1 yl0 yl1
  have S0 : 0 ≤ wn xh xl + wn yh yl := by omega
  have t1 : (n == 0) = false := beq_eq_false_iff_ne.2 (by omega)
  have d0 : 0 ≤ wn xh xl / n := Int.ediv_nonneg X0 n0
  have d2 : wn xh xl / n * n ≤ wn xh xl := Int.ediv_mul_le _ (by omega)
  have d3 : wn xh xl / n ≤ wn xh xl := by have := Int.ediv_le_self n X0; omega
  have d1 : wn xh xl / n < top := by omega
  have m0 : 0 ≤ wn xh xl % n := Int.emod_nonneg _ (by omega)
  have m1 : wn xh xl % n < n := Int.emod_lt_of_pos _ hn
  have DM := Lib.hid (Int.mul_ediv_add_emod (wn xh xl) n)
  have P0 : 0 ≤ wn xh xl / n * n := Int.mul_nonneg d0 n0
  go_enter Try.func5, Try.ntmps5
  go_wp2_with fail
  refine (shown_any _).mono ?_
  rintro e w1 ⟨rfl, hb1⟩
  obtain ⟨cx0, cx1, cy0, cy1, lcx, lcy, B1⟩ := boxes2 hb1
  clear hb1
  go_wp2_with fail
  refine (add_yes xh xl yh yl _ xl0 xl1 xh0 xh1 yl0 yl1 yh0 yh1 hs).mono ?_
  rintro e w2 ⟨rfl, hb2⟩
  have g2 := sizeB hb2
  have B2 := stepC B1 hb2
  replace cx0 := keep hb2 (by omega) cx0
  replace cx1 := keep hb2 (by omega) cx1
  replace cy0 := keep hb2 (by omega) cy0
  replace cy1 := keep hb2 (by omega) cy1
  replace lcx : w.heap.size < w2.heap.size := by omega
  replace lcy : w.heap.size + 1 < w2.heap.size := by omega
  clear hb2 g2 B1
  have DE := Lib.hid (show wn xh xl + wn yh yl - wn yh yl = wn xh xl by omega)
  go_wp2_with fail
  refine (sub_yes (hi (wn xh xl + wn yh yl)) (lo (wn xh xl + wn yh yl)) yh yl _ (lo_bd _).1 (lo_bd _).2 (hi_bd _ S0 hs).1 (hi_bd _ S0 hs).2 yl0 yl1 yh0 yh1 (by rw [wn_hi_lo]; omega)).mono ?_
  rw [wn_hi_lo, DE.out, hi_wn xh xl xl0 xl1, lo_wn xh xl xl0 xl1]
  rintro e w3 ⟨rfl, hb3⟩
  have g3 := growA hb3
  have B3 := stepA B2 hb3
  replace cx0 := keepA hb3 (by omega) cx0
  replace cx1 := keepA hb3 (by omega) cx1
  replace cy0 := keepA hb3 (by omega) cy0
  replace cy1 := keepA hb3 (by omega) cy1
  replace lcx : w.heap.size < w3.heap.size := by omega
  replace lcy : w.heap.size + 1 < w3.heap.size := by omega
  obtain ⟨cs0, cs1⟩ := own2 hb3
  have lcs : w2.heap.size < w3.heap.size := g3
  clear hb3 g3 B2
  have ge := cmp_ge (wn xh xl + wn yh yl) (wn xh xl) (by omega)
  go_wp2_with fail
  refine (cmp_any (hi (wn xh xl + wn yh yl)) (lo (wn xh xl + wn yh yl)) xh xl _ (lo_bd _).1 (lo_bd _).2 xl0 xl1).mono ?_
  rw [wn_hi_lo]
  rintro e w4 ⟨rfl, hb4⟩
  have g4 := growA hb4
  have B4 := stepA B3 hb4
  replace cx0 := keepA hb4 (by omega) cx0
  replace cx1 := keepA hb4 (by omega) cx1
  replace cy0 := keepA hb4 (by omega) cy0
  replace cy1 := keepA hb4 (by omega) cy1
  replace cs0 := keepA hb4 (by omega) cs0
  replace cs1 := keepA hb4 (by omega) cs1
  replace lcx : w.heap.size < w4.heap.size := by omega
  replace lcy : w.heap.size + 1 < w4.heap.size := by omega
  replace lcs : w2.heap.size < w4.heap.size := by omega
  clear hb4 g4 B3
  go_wp2_with fail
  refine (times_no xh xl n _ xl0 xl1 xh0 xh1 n0 n1 hp).mono ?_
  rintro e w5 ⟨rfl, hb5⟩
  have g5 := sizeB hb5
  have B5 := stepC B4 hb5
  replace cx0 := keep hb5 (by omega) cx0
  replace cx1 := keep hb5 (by omega) cx1
  replace cy0 := keep hb5 (by omega) cy0
  replace cy1 := keep hb5 (by omega) cy1
  replace cs0 := keep hb5 (by omega) cs0
  replace cs1 := keep hb5 (by omega) cs1
  replace lcx : w.heap.size < w5.heap.size := by omega
  replace lcy : w.heap.size + 1 < w5.heap.size := by omega
  replace lcs : w2.heap.size < w5.heap.size := by omega
  clear hb5 g5 B4
  go_wp2_with fail
  refine (div_yes xh xl n _ xl0 xl1 xh0 xh1 hn n1).mono ?_
  rintro e w6 ⟨rfl, hb6⟩
  have g6 := growA hb6
  have B6 := stepA B5 hb6
  replace cx0 := keepA hb6 (by omega) cx0
  replace cx1 := keepA hb6 (by omega) cx1
  replace cy0 := keepA hb6 (by omega) cy0
  replace cy1 := keepA hb6 (by omega) cy1
  replace cs0 := keepA hb6 (by omega) cs0
  replace cs1 := keepA hb6 (by omega) cs1
  replace lcx : w.heap.size < w6.heap.size := by omega
  replace lcy : w.heap.size + 1 < w6.heap.size := by omega
  replace lcs : w2.heap.size < w6.heap.size := by omega
  clear hb6 g6 B5
  go_wp2_with fail
  refine (times_yes (hi (wn xh xl / n)) (lo (wn xh xl / n)) n _ (lo_bd _).1 (lo_bd _).2 (hi_bd _ d0 d1).1 (hi_bd _ d0 d1).2 n0 n1 (by rw [wn_hi_lo]; omega)).mono ?_
  rw [wn_hi_lo]
  rintro e w7 ⟨rfl, hb7⟩
  have g7 := growA hb7
  have B7 := stepA B6 hb7
  replace cx0 := keepA hb7 (by omega) cx0
  replace cx1 := keepA hb7 (by omega) cx1
  replace cy0 := keepA hb7 (by omega) cy0
  replace cy1 := keepA hb7 (by omega) cy1
  replace cs0 := keepA hb7 (by omega) cs0
  replace cs1 := keepA hb7 (by omega) cs1
  replace lcx : w.heap.size < w7.heap.size := by omega
  replace lcy : w.heap.size + 1 < w7.heap.size := by omega
  replace lcs : w2.heap.size < w7.heap.size := by omega
  clear hb7 g7 B6
  go_wp2_with fail
  have HS0 := Lib.hid (two_new (v0 := .int .u64 (hi (wn xh xl / n * n))) (v1 := .int .u64 (lo (wn xh xl / n * n))) (t := 24) cx0 cx1 lcx B7)
  have HS := Lib.hid (two_drew HS0.out)
  go_region_held3 (fun w' => w'.cell? ⟨w.heap.size, 0, none⟩ = some (.int .u64 xh) ∧ w'.cell? ⟨w.heap.size, 1, none⟩ = some (.int .u64 xl) ∧ w'.cell? ⟨w7.heap.size, 0, none⟩ = some (.int .u64 (hi (wn xh xl / n * n))) ∧ w'.cell? ⟨w7.heap.size, 1, none⟩ = some (.int .u64 (lo (wn xh xl / n * n))) ∧
        w.heap.size < w'.heap.size ∧ w7.heap.size < w'.heap.size ∧ Below w.heap.size w w') (first | exact HS.out | exact two_drew (two_alloc HS0.out) | (refine two_kept ?_ hb; assumption) | (refine two_alloc ?_; assumption) | (refine two_alloc (two_kept (two_kept HS.out ?_) hb); assumption) | (refine two_set (two_set ?_ ?_ ?_ ?_) ?_ ?_ ?_; (assumption); (omega); (omega); (omega); (omega); (omega); omega))
      (first
        | (go_at_call 21; refine (of_any _ _).mono ?_; rintro e w' ⟨rfl, hb⟩; obtain ⟨hc, hf⟩ := bcell hb; have hz := hb.size; (try simp at hz); (try have hlt : w7.heap.size + 1 < w'.heap.size := by omega))
        | (go_at_call 15; refine (add_back (wn xh xl) n xh xl _ rfl xl0 xl1 d0 n0 n1 hn X1).mono ?_; rintro e w' ⟨rfl, hb⟩; obtain ⟨hc, hf⟩ := bcell hb; have hz := hb.size; (try simp at hz); (try have hlt : w7.heap.size + 1 < w'.heap.size := by omega)))
  all_goals
    go_wp2_with fail
    go_ret
    exact ⟨rfl, two_last (by assumption)⟩

set_option maxHeartbeats 4000000 in
set_option maxRecDepth 100000 in
theorem back_yes_zero (xh xl yh yl n : Int) (w : World) (xh0 : 0 ≤ xh) (xh1 : xh < 18446744073709551616) (xl0 : 0 ≤ xl) (xl1 : xl < 18446744073709551616)
    (yh0 : 0 ≤ yh) (yh1 : yh < 18446744073709551616) (yl0 : 0 ≤ yl) (yl1 : yl < 18446744073709551616) (n0 : 0 ≤ n) (n1 : n < 18446744073709551616) (hs : wn xh xl + wn yh yl < top) (hn : n = 0) :
    Calls Try.prog 5 #[.agg #[.int .u64 xh, .int .u64 xl], .agg #[.int .u64 yh, .int .u64 yl], .int .u64 n] w fun e w' => e = .returned (.bool true) ∧ Below w.heap.size w w' := by
  obtain ⟨X0, X1⟩ := wn_bd xh xl xh0 xh1 xl0 xl1
  obtain ⟨Y0, Y1⟩ := wn_bd yh yl yh0 yh1 yl0 yl1
  have S0 : 0 ≤ wn xh xl + wn yh yl := by omega
  subst hn
  go_enter Try.func5, Try.ntmps5
  go_wp2_with fail
  refine (shown_any _).mono ?_
  rintro e w1 ⟨rfl, hb1⟩
  obtain ⟨cx0, cx1, cy0, cy1, lcx, lcy, B1⟩ := boxes2 hb1
  clear hb1
  go_wp2_with fail
  refine (add_yes xh xl yh yl _ xl0 xl1 xh0 xh1 yl0 yl1 yh0 yh1 hs).mono ?_
  rintro e w2 ⟨rfl, hb2⟩
  have g2 := sizeB hb2
  have B2 := stepC B1 hb2
  replace cx0 := keep hb2 (by omega) cx0
  replace cx1 := keep hb2 (by omega) cx1
  replace cy0 := keep hb2 (by omega) cy0
  replace cy1 := keep hb2 (by omega) cy1
  replace lcx : w.heap.size < w2.heap.size := by omega
  replace lcy : w.heap.size + 1 < w2.heap.size := by omega
  clear hb2 g2 B1
  have DE := Lib.hid (show wn xh xl + wn yh yl - wn yh yl = wn xh xl by omega)
  go_wp2_with fail
  refine (sub_yes (hi (wn xh xl + wn yh yl)) (lo (wn xh xl + wn yh yl)) yh yl _ (lo_bd _).1 (lo_bd _).2 (hi_bd _ S0 hs).1 (hi_bd _ S0 hs).2 yl0 yl1 yh0 yh1 (by rw [wn_hi_lo]; omega)).mono ?_
  rw [wn_hi_lo, DE.out, hi_wn xh xl xl0 xl1, lo_wn xh xl xl0 xl1]
  rintro e w3 ⟨rfl, hb3⟩
  have g3 := growA hb3
  have B3 := stepA B2 hb3
  replace cx0 := keepA hb3 (by omega) cx0
  replace cx1 := keepA hb3 (by omega) cx1
  replace cy0 := keepA hb3 (by omega) cy0
  replace cy1 := keepA hb3 (by omega) cy1
  replace lcx : w.heap.size < w3.heap.size := by omega
  replace lcy : w.heap.size + 1 < w3.heap.size := by omega
  obtain ⟨cs0, cs1⟩ := own2 hb3
  have lcs : w2.heap.size < w3.heap.size := g3
  clear hb3 g3 B2
  have ge := cmp_ge (wn xh xl + wn yh yl) (wn xh xl) (by omega)
  go_wp2_with fail
  refine (cmp_any (hi (wn xh xl + wn yh yl)) (lo (wn xh xl + wn yh yl)) xh xl _ (lo_bd _).1 (lo_bd _).2 xl0 xl1).mono ?_
  rw [wn_hi_lo]
  rintro e w4 ⟨rfl, hb4⟩
  have g4 := growA hb4
  have B4 := stepA B3 hb4
  replace cx0 := keepA hb4 (by omega) cx0
  replace cx1 := keepA hb4 (by omega) cx1
  replace cy0 := keepA hb4 (by omega) cy0
  replace cy1 := keepA hb4 (by omega) cy1
  replace cs0 := keepA hb4 (by omega) cs0
  replace cs1 := keepA hb4 (by omega) cs1
  replace lcx : w.heap.size < w4.heap.size := by omega
  replace lcy : w.heap.size + 1 < w4.heap.size := by omega
  replace lcs : w2.heap.size < w4.heap.size := by omega
  clear hb4 g4 B3
  have hz0 : vH (wn xh xl * 0) = 0 := by rw [Int.mul_zero]; rfl
  have hz1 : vL (wn xh xl * 0) = 0 := by rw [Int.mul_zero]; rfl
  have hz2 : vE (wn xh xl * 0) = 0 := by rw [Int.mul_zero]; rfl
  go_wp2_with fail
  refine (times_any xh xl 0 _ xl0 xl1 xh0 xh1 n0 n1).mono ?_
  rw [hz0, hz1, hz2]
  rintro e w5 ⟨rfl, hb5⟩
  have g5 := sizeB hb5
  have B5 := stepC B4 hb5
  replace cx0 := keep hb5 (by omega) cx0
  replace cx1 := keep hb5 (by omega) cx1
  replace cy0 := keep hb5 (by omega) cy0
  replace cy1 := keep hb5 (by omega) cy1
  replace cs0 := keep hb5 (by omega) cs0
  replace cs1 := keep hb5 (by omega) cs1
  replace lcx : w.heap.size < w5.heap.size := by omega
  replace lcy : w.heap.size + 1 < w5.heap.size := by omega
  replace lcs : w2.heap.size < w5.heap.size := by omega
  clear hb5 g5 B4
  go_wp2_with fail
  go_ret
  exact ⟨rfl, B5.alloc B5.size _⟩

set_option maxHeartbeats 4000000 in
set_option maxRecDepth 100000 in
theorem back_no_fits (xh xl yh yl n : Int) (w : World) (xh0 : 0 ≤ xh) (xh1 : xh < 18446744073709551616) (xl0 : 0 ≤ xl) (xl1 : xl < 18446744073709551616)
    (yh0 : 0 ≤ yh) (yh1 : yh < 18446744073709551616) (yl0 : 0 ≤ yl) (yl1 : yl < 18446744073709551616) (n0 : 0 ≤ n) (n1 : n < 18446744073709551616) (hs : top ≤ wn xh xl + wn yh yl) (hn : 0 < n) (hp : wn xh xl * n < top) :
    Calls Try.prog 5 #[.agg #[.int .u64 xh, .int .u64 xl], .agg #[.int .u64 yh, .int .u64 yl], .int .u64 n] w fun e w' => e = .returned (.bool true) ∧ Below w.heap.size w w' := by
  obtain ⟨X0, X1⟩ := wn_bd xh xl xh0 xh1 xl0 xl1
  obtain ⟨Y0, Y1⟩ := wn_bd yh yl yh0 yh1 yl0 yl1
  have S0 : 0 ≤ wn xh xl + wn yh yl := by omega
  have t1 : (n == 0) = false := beq_eq_false_iff_ne.2 (by omega)
  have d0 : 0 ≤ wn xh xl / n := Int.ediv_nonneg X0 n0
  have d2 : wn xh xl / n * n ≤ wn xh xl := Int.ediv_mul_le _ (by omega)
  have d3 : wn xh xl / n ≤ wn xh xl := by have := Int.ediv_le_self n X0; omega
  have d1 : wn xh xl / n < top := by omega
  have m0 : 0 ≤ wn xh xl % n := Int.emod_nonneg _ (by omega)
  have m1 : wn xh xl % n < n := Int.emod_lt_of_pos _ hn
  have DM := Lib.hid (Int.mul_ediv_add_emod (wn xh xl) n)
  have P0 : 0 ≤ wn xh xl / n * n := Int.mul_nonneg d0 n0
  go_enter Try.func5, Try.ntmps5
  go_wp2_with fail
  refine (shown_any _).mono ?_
  rintro e w1 ⟨rfl, hb1⟩
  obtain ⟨cx0, cx1, cy0, cy1, lcx, lcy, B1⟩ := boxes2 hb1
  clear hb1
  go_wp2_with fail
  refine (add_no xh xl yh yl _ xl0 xl1 xh0 xh1 yl0 yl1 yh0 yh1 hs).mono ?_
  rintro e w2 ⟨rfl, hb2⟩
  have g2 := sizeB hb2
  have B2 := stepC B1 hb2
  replace cx0 := keep hb2 (by omega) cx0
  replace cx1 := keep hb2 (by omega) cx1
  replace cy0 := keep hb2 (by omega) cy0
  replace cy1 := keep hb2 (by omega) cy1
  replace lcx : w.heap.size < w2.heap.size := by omega
  replace lcy : w.heap.size + 1 < w2.heap.size := by omega
  clear hb2 g2 B1
  have T0 : 0 ≤ wn xh xl * n := Int.mul_nonneg X0 n0
  go_wp2_with fail
  refine (times_yes xh xl n _ xl0 xl1 xh0 xh1 n0 n1 hp).mono ?_
  rintro e w3 ⟨rfl, hb3⟩
  have g3 := growA hb3
  have B3 := stepA B2 hb3
  replace cx0 := keepA hb3 (by omega) cx0
  replace cx1 := keepA hb3 (by omega) cx1
  replace cy0 := keepA hb3 (by omega) cy0
  replace cy1 := keepA hb3 (by omega) cy1
  replace lcx : w.heap.size < w3.heap.size := by omega
  replace lcy : w.heap.size + 1 < w3.heap.size := by omega
  clear hb3 g3 B2
  have QE := Lib.hid (show wn xh xl * n / n = wn xh xl from Int.mul_ediv_cancel _ (by omega))
  have RE := Lib.hid (show wn xh xl * n % n = 0 from Int.mul_emod_left _ _)
  go_wp2_with fail
  refine (div_yes (hi (wn xh xl * n)) (lo (wn xh xl * n)) n _ (lo_bd _).1 (lo_bd _).2 (hi_bd _ T0 hp).1 (hi_bd _ T0 hp).2 hn n1).mono ?_
  rw [wn_hi_lo, QE.out, RE.out, hi_wn xh xl xl0 xl1, lo_wn xh xl xl0 xl1]
  rintro e w4 ⟨rfl, hb4⟩
  have g4 := growA hb4
  have B4 := stepA B3 hb4
  replace cx0 := keepA hb4 (by omega) cx0
  replace cx1 := keepA hb4 (by omega) cx1
  replace cy0 := keepA hb4 (by omega) cy0
  replace cy1 := keepA hb4 (by omega) cy1
  replace lcx : w.heap.size < w4.heap.size := by omega
  replace lcy : w.heap.size + 1 < w4.heap.size := by omega
  clear hb4 g4 B3
  go_wp2_with fail
  refine (div_yes xh xl n _ xl0 xl1 xh0 xh1 hn n1).mono ?_
  rintro e w5 ⟨rfl, hb5⟩
  have g5 := growA hb5
  have B5 := stepA B4 hb5
  replace cx0 := keepA hb5 (by omega) cx0
  replace cx1 := keepA hb5 (by omega) cx1
  replace cy0 := keepA hb5 (by omega) cy0
  replace cy1 := keepA hb5 (by omega) cy1
  replace lcx : w.heap.size < w5.heap.size := by omega
  replace lcy : w.heap.size + 1 < w5.heap.size := by omega
  clear hb5 g5 B4
  go_wp2_with fail
  refine (times_yes (hi (wn xh xl / n)) (lo (wn xh xl / n)) n _ (lo_bd _).1 (lo_bd _).2 (hi_bd _ d0 d1).1 (hi_bd _ d0 d1).2 n0 n1 (by rw [wn_hi_lo]; omega)).mono ?_
  rw [wn_hi_lo]
  rintro e w6 ⟨rfl, hb6⟩
  have g6 := growA hb6
  have B6 := stepA B5 hb6
  replace cx0 := keepA hb6 (by omega) cx0
  replace cx1 := keepA hb6 (by omega) cx1
  replace cy0 := keepA hb6 (by omega) cy0
  replace cy1 := keepA hb6 (by omega) cy1
  replace lcx : w.heap.size < w6.heap.size := by omega
  replace lcy : w.heap.size + 1 < w6.heap.size := by omega
  clear hb6 g6 B5
  go_wp2_with fail
  have HS0 := Lib.hid (two_new (v0 := .int .u64 (hi (wn xh xl / n * n))) (v1 := .int .u64 (lo (wn xh xl / n * n))) (t := 24) cx0 cx1 lcx B6)
  have HS := Lib.hid (two_drew HS0.out)
  go_region_held3 (fun w' => w'.cell? ⟨w.heap.size, 0, none⟩ = some (.int .u64 xh) ∧ w'.cell? ⟨w.heap.size, 1, none⟩ = some (.int .u64 xl) ∧ w'.cell? ⟨w6.heap.size, 0, none⟩ = some (.int .u64 (hi (wn xh xl / n * n))) ∧ w'.cell? ⟨w6.heap.size, 1, none⟩ = some (.int .u64 (lo (wn xh xl / n * n))) ∧
        w.heap.size < w'.heap.size ∧ w6.heap.size < w'.heap.size ∧ Below w.heap.size w w') (first | exact HS.out | exact two_drew (two_alloc HS0.out) | (refine two_kept ?_ hb; assumption) | (refine two_alloc ?_; assumption) | (refine two_alloc (two_kept (two_kept HS.out ?_) hb); assumption) | (refine two_set (two_set ?_ ?_ ?_ ?_) ?_ ?_ ?_; (assumption); (omega); (omega); (omega); (omega); (omega); omega))
      (first
        | (go_at_call 21; refine (of_any _ _).mono ?_; rintro e w' ⟨rfl, hb⟩; obtain ⟨hc, hf⟩ := bcell hb; have hz := hb.size; (try simp at hz); (try have hlt : w6.heap.size + 1 < w'.heap.size := by omega))
        | (go_at_call 15; refine (add_back (wn xh xl) n xh xl _ rfl xl0 xl1 d0 n0 n1 hn X1).mono ?_; rintro e w' ⟨rfl, hb⟩; obtain ⟨hc, hf⟩ := bcell hb; have hz := hb.size; (try simp at hz); (try have hlt : w6.heap.size + 1 < w'.heap.size := by omega)))
  all_goals
    go_wp2_with fail
    go_ret
    exact ⟨rfl, two_last (by assumption)⟩

set_option maxHeartbeats 4000000 in
set_option maxRecDepth 100000 in
theorem back_no_over (xh xl yh yl n : Int) (w : World) (xh0 : 0 ≤ xh) (xh1 : xh < 18446744073709551616) (xl0 : 0 ≤ xl) (xl1 : xl < 18446744073709551616)
    (yh0 : 0 ≤ yh) (yh1 : yh < 18446744073709551616) (yl0 : 0 ≤ yl) (yl1 : yl < 18446744073709551616) (n0 : 0 ≤ n) (n1 : n < 18446744073709551616) (hs : top ≤ wn xh xl + wn yh yl) (hn : 0 < n) (hp : top ≤ wn xh xl * n) :
    Calls Try.prog 5 #[.agg #[.int .u64 xh, .int .u64 xl], .agg #[.int .u64 yh, .int .u64 yl], .int .u64 n] w fun e w' => e = .returned (.bool true) ∧ Below w.heap.size w w' := by
  obtain ⟨X0, X1⟩ := wn_bd xh xl xh0 xh1 xl0 xl1
  obtain ⟨Y0, Y1⟩ := wn_bd yh yl yh0 yh1 yl0 yl1
  have S0 : 0 ≤ wn xh xl + wn yh yl := by omega
  have t1 : (n == 0) = false := beq_eq_false_iff_ne.2 (by omega)
  have d0 : 0 ≤ wn xh xl / n := Int.ediv_nonneg X0 n0
  have d2 : wn xh xl / n * n ≤ wn xh xl := Int.ediv_mul_le _ (by omega)
  have d3 : wn xh xl / n ≤ wn xh xl := by have := Int.ediv_le_self n X0; omega
  have d1 : wn xh xl / n < top := by omega
  have m0 : 0 ≤ wn xh xl % n := Int.emod_nonneg _ (by omega)
  have m1 : wn xh xl % n < n := Int.emod_lt_of_pos _ hn
  have DM := Lib.hid (Int.mul_ediv_add_emod (wn xh xl) n)
  have P0 : 0 ≤ wn xh xl / n * n := Int.mul_nonneg d0 n0
  go_enter Try.func5, Try.ntmps5
  go_wp2_with fail
  refine (shown_any _).mono ?_
  rintro e w1 ⟨rfl, hb1⟩
  obtain ⟨cx0, cx1, cy0, cy1, lcx, lcy, B1⟩ := boxes2 hb1
  clear hb1
  go_wp2_with fail
  refine (add_no xh xl yh yl _ xl0 xl1 xh0 xh1 yl0 yl1 yh0 yh1 hs).mono ?_
  rintro e w2 ⟨rfl, hb2⟩
  have g2 := sizeB hb2
  have B2 := stepC B1 hb2
  replace cx0 := keep hb2 (by omega) cx0
  replace cx1 := keep hb2 (by omega) cx1
  replace cy0 := keep hb2 (by omega) cy0
  replace cy1 := keep hb2 (by omega) cy1
  replace lcx : w.heap.size < w2.heap.size := by omega
  replace lcy : w.heap.size + 1 < w2.heap.size := by omega
  clear hb2 g2 B1
  go_wp2_with fail
  refine (times_no xh xl n _ xl0 xl1 xh0 xh1 n0 n1 hp).mono ?_
  rintro e w3 ⟨rfl, hb3⟩
  have g3 := growA hb3
  have B3 := stepA B2 hb3
  replace cx0 := keepA hb3 (by omega) cx0
  replace cx1 := keepA hb3 (by omega) cx1
  replace cy0 := keepA hb3 (by omega) cy0
  replace cy1 := keepA hb3 (by omega) cy1
  replace lcx : w.heap.size < w3.heap.size := by omega
  replace lcy : w.heap.size + 1 < w3.heap.size := by omega
  clear hb3 g3 B2
  go_wp2_with fail
  refine (div_yes xh xl n _ xl0 xl1 xh0 xh1 hn n1).mono ?_
  rintro e w4 ⟨rfl, hb4⟩
  have g4 := growA hb4
  have B4 := stepA B3 hb4
  replace cx0 := keepA hb4 (by omega) cx0
  replace cx1 := keepA hb4 (by omega) cx1
  replace cy0 := keepA hb4 (by omega) cy0
  replace cy1 := keepA hb4 (by omega) cy1
  replace lcx : w.heap.size < w4.heap.size := by omega
  replace lcy : w.heap.size + 1 < w4.heap.size := by omega
  clear hb4 g4 B3
  go_wp2_with fail
  refine (times_yes (hi (wn xh xl / n)) (lo (wn xh xl / n)) n _ (lo_bd _).1 (lo_bd _).2 (hi_bd _ d0 d1).1 (hi_bd _ d0 d1).2 n0 n1 (by rw [wn_hi_lo]; omega)).mono ?_
  rw [wn_hi_lo]
  rintro e w5 ⟨rfl, hb5⟩
  have g5 := growA hb5
  have B5 := stepA B4 hb5
  replace cx0 := keepA hb5 (by omega) cx0
  replace cx1 := keepA hb5 (by omega) cx1
  replace cy0 := keepA hb5 (by omega) cy0
  replace cy1 := keepA hb5 (by omega) cy1
  replace lcx : w.heap.size < w5.heap.size := by omega
  replace lcy : w.heap.size + 1 < w5.heap.size := by omega
  clear hb5 g5 B4
  go_wp2_with fail
  have HS0 := Lib.hid (two_new (v0 := .int .u64 (hi (wn xh xl / n * n))) (v1 := .int .u64 (lo (wn xh xl / n * n))) (t := 24) cx0 cx1 lcx B5)
  have HS := Lib.hid (two_drew HS0.out)
  go_region_held3 (fun w' => w'.cell? ⟨w.heap.size, 0, none⟩ = some (.int .u64 xh) ∧ w'.cell? ⟨w.heap.size, 1, none⟩ = some (.int .u64 xl) ∧ w'.cell? ⟨w5.heap.size, 0, none⟩ = some (.int .u64 (hi (wn xh xl / n * n))) ∧ w'.cell? ⟨w5.heap.size, 1, none⟩ = some (.int .u64 (lo (wn xh xl / n * n))) ∧
        w.heap.size < w'.heap.size ∧ w5.heap.size < w'.heap.size ∧ Below w.heap.size w w') (first | exact HS.out | exact two_drew (two_alloc HS0.out) | (refine two_kept ?_ hb; assumption) | (refine two_alloc ?_; assumption) | (refine two_alloc (two_kept (two_kept HS.out ?_) hb); assumption) | (refine two_set (two_set ?_ ?_ ?_ ?_) ?_ ?_ ?_; (assumption); (omega); (omega); (omega); (omega); (omega); omega))
      (first
        | (go_at_call 21; refine (of_any _ _).mono ?_; rintro e w' ⟨rfl, hb⟩; obtain ⟨hc, hf⟩ := bcell hb; have hz := hb.size; (try simp at hz); (try have hlt : w5.heap.size + 1 < w'.heap.size := by omega))
        | (go_at_call 15; refine (add_back (wn xh xl) n xh xl _ rfl xl0 xl1 d0 n0 n1 hn X1).mono ?_; rintro e w' ⟨rfl, hb⟩; obtain ⟨hc, hf⟩ := bcell hb; have hz := hb.size; (try simp at hz); (try have hlt : w5.heap.size + 1 < w'.heap.size := by omega)))
  all_goals
    go_wp2_with fail
    go_ret
    exact ⟨rfl, two_last (by assumption)⟩

set_option maxHeartbeats 4000000 in
set_option maxRecDepth 100000 in
theorem back_no_zero (xh xl yh yl n : Int) (w : World) (xh0 : 0 ≤ xh) (xh1 : xh < 18446744073709551616) (xl0 : 0 ≤ xl) (xl1 : xl < 18446744073709551616)
    (yh0 : 0 ≤ yh) (yh1 : yh < 18446744073709551616) (yl0 : 0 ≤ yl) (yl1 : yl < 18446744073709551616) (n0 : 0 ≤ n) (n1 : n < 18446744073709551616) (hs : top ≤ wn xh xl + wn yh yl) (hn : n = 0) :
    Calls Try.prog 5 #[.agg #[.int .u64 xh, .int .u64 xl], .agg #[.int .u64 yh, .int .u64 yl], .int .u64 n] w fun e w' => e = .returned (.bool true) ∧ Below w.heap.size w w' := by
  obtain ⟨X0, X1⟩ := wn_bd xh xl xh0 xh1 xl0 xl1
  obtain ⟨Y0, Y1⟩ := wn_bd yh yl yh0 yh1 yl0 yl1
  have S0 : 0 ≤ wn xh xl + wn yh yl := by omega
  subst hn
  go_enter Try.func5, Try.ntmps5
  go_wp2_with fail
  refine (shown_any _).mono ?_
  rintro e w1 ⟨rfl, hb1⟩
  obtain ⟨cx0, cx1, cy0, cy1, lcx, lcy, B1⟩ := boxes2 hb1
  clear hb1
  go_wp2_with fail
  refine (add_no xh xl yh yl _ xl0 xl1 xh0 xh1 yl0 yl1 yh0 yh1 hs).mono ?_
  rintro e w2 ⟨rfl, hb2⟩
  have g2 := sizeB hb2
  have B2 := stepC B1 hb2
  replace cx0 := keep hb2 (by omega) cx0
  replace cx1 := keep hb2 (by omega) cx1
  replace cy0 := keep hb2 (by omega) cy0
  replace cy1 := keep hb2 (by omega) cy1
  replace lcx : w.heap.size < w2.heap.size := by omega
  replace lcy : w.heap.size + 1 < w2.heap.size := by omega
  clear hb2 g2 B1
  have hz0 : vH (wn xh xl * 0) = 0 := by rw [Int.mul_zero]; rfl
  have hz1 : vL (wn xh xl * 0) = 0 := by rw [Int.mul_zero]; rfl
  have hz2 : vE (wn xh xl * 0) = 0 := by rw [Int.mul_zero]; rfl
  go_wp2_with fail
  refine (times_any xh xl 0 _ xl0 xl1 xh0 xh1 n0 n1).mono ?_
  rw [hz0, hz1, hz2]
  rintro e w3 ⟨rfl, hb3⟩
  have g3 := growA hb3
  have B3 := stepA B2 hb3
  replace cx0 := keepA hb3 (by omega) cx0
  replace cx1 := keepA hb3 (by omega) cx1
  replace cy0 := keepA hb3 (by omega) cy0
  replace cy1 := keepA hb3 (by omega) cy1
  replace lcx : w.heap.size < w3.heap.size := by omega
  replace lcy : w.heap.size + 1 < w3.heap.size := by omega
  clear hb3 g3 B2
  go_wp2_with fail
  go_ret
  exact ⟨rfl, B3.alloc B3.size _⟩

theorem back_walk (xh xl yh yl n : Int) (w : World) (xh0 : 0 ≤ xh) (xh1 : xh < 18446744073709551616) (xl0 : 0 ≤ xl) (xl1 : xl < 18446744073709551616)
    (yh0 : 0 ≤ yh) (yh1 : yh < 18446744073709551616) (yl0 : 0 ≤ yl) (yl1 : yl < 18446744073709551616) (n0 : 0 ≤ n) (n1 : n < 18446744073709551616) :
    Calls Try.prog 5 #[.agg #[.int .u64 xh, .int .u64 xl], .agg #[.int .u64 yh, .int .u64 yl], .int .u64 n] w fun e w' => e = .returned (.bool true) ∧ Below w.heap.size w w' := by
  by_cases hs : wn xh xl + wn yh yl < top
  · by_cases hn : n = 0
    · exact back_yes_zero xh xl yh yl n w xh0 xh1 xl0 xl1 yh0 yh1 yl0 yl1 n0 n1 hs hn
    · by_cases hp : wn xh xl * n < top
      · exact back_yes_fits xh xl yh yl n w xh0 xh1 xl0 xl1 yh0 yh1 yl0 yl1 n0 n1 hs (by omega) hp
      · exact back_yes_over xh xl yh yl n w xh0 xh1 xl0 xl1 yh0 yh1 yl0 yl1 n0 n1 hs (by omega) (by omega)
  · by_cases hn : n = 0
    · exact back_no_zero xh xl yh yl n w xh0 xh1 xl0 xl1 yh0 yh1 yl0 yl1 n0 n1 (by omega) hn
    · by_cases hp : wn xh xl * n < top
      · exact back_no_fits xh xl yh yl n w xh0 xh1 xl0 xl1 yh0 yh1 yl0 yl1 n0 n1 (by omega) (by omega) hp
      · exact back_no_over xh xl yh yl n w xh0 xh1 xl0 xl1 yh0 yh1 yl0 yl1 n0 n1 (by omega) (by omega) (by omega)
end Go.Proofs.Ytcpifgoglcoeeaa
