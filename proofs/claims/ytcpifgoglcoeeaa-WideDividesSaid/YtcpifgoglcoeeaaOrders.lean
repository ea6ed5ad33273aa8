/- WideOrders: the walk of the statement's Go text. -/
import Derived.Test.YtcpifgoglcoeeaaLawKit
import Derived.Deep.CutRange
namespace Go.Proofs.Ytcpifgoglcoeeaa
open Go.RowKit

theorem cmpI_lt {a b : Int} (h : a < b) : cmpI a b = -1 := by unfold cmpI; rw [if_pos h]
theorem cmpI_eq {a b : Int} (h : a = b) : cmpI a b = 0 := by unfold cmpI; rw [if_neg (by omega), if_neg (by omega)]
theorem cmpI_gt {a b : Int} (h : b < a) : cmpI a b = 1 := by unfold cmpI; rw [if_neg (by omega), if_pos h]
theorem cmpI_le {a b : Int} (h : a ≤ b) : cmpI a b ≤ 0 := by unfold cmpI; split; omega; rw [if_neg (by omega)]; exact Int.le_refl _
theorem cmpI_no {a b : Int} (h : a ≤ b) : decide (0 < cmpI a b) = false := by rw [decide_eq_false_iff_not]; have := cmpI_le h; omega
theorem vb_yes {p : Int} (h : p < top) : (vE p == 0) = true ∧ (vE p != 0) = false := by rw [(v_yes h).2.2]; exact ⟨rfl, rfl⟩
theorem vb_no {p : Int} (h : ¬ p < top) : (vE p == 0) = false ∧ (vE p != 0) = true := by rw [(v_no h).2.2]; exact ⟨rfl, rfl⟩
theorem vL_bd (p : Int) : 0 ≤ vL p ∧ vL p < 18446744073709551616 := by unfold vL; split; exact lo_bd p; decide
theorem wn_v {p : Int} (h : p < top) : wn (vH p) (vL p) = p := by rw [(v_yes h).1, (v_yes h).2.1, wn_hi_lo]
theorem wn_inj {a b c d : Int} (h : wn a b = wn c d) (b0 : 0 ≤ b) (b1 : b < 18446744073709551616) (d0 : 0 ≤ d) (d1 : d < 18446744073709551616) : a = c ∧ b = d := by unfold wn at h; omega

/-- Behind the boxes of the record and of its three numbers, and a call. -/
theorem boxes4 {w w' : World} {x0 x1 y0 y1 z0 z1 : Value} {o : Obj} {t u v : TypeId}
    (hb : Below ((((w.alloc o).alloc (.cells #[x0, x1] t)).alloc (.cells #[y0, y1] u)).alloc (.cells #[z0, z1] v)).heap.size ((((w.alloc o).alloc (.cells #[x0, x1] t)).alloc (.cells #[y0, y1] u)).alloc (.cells #[z0, z1] v)) w') :
    w'.cell? ⟨w.heap.size + 1, 0, none⟩ = some x0 ∧ w'.cell? ⟨w.heap.size + 1, 1, none⟩ = some x1 ∧ w'.cell? ⟨w.heap.size + 1 + 1, 0, none⟩ = some y0 ∧ w'.cell? ⟨w.heap.size + 1 + 1, 1, none⟩ = some y1 ∧ w'.cell? ⟨w.heap.size + 1 + 1 + 1, 0, none⟩ = some z0 ∧ w'.cell? ⟨w.heap.size + 1 + 1 + 1, 1, none⟩ = some z1 ∧
      w.heap.size + 1 < w'.heap.size ∧ w.heap.size + 1 + 1 < w'.heap.size ∧ w.heap.size + 1 + 1 + 1 < w'.heap.size ∧ Below w.heap.size w w' := by
  have hs := hb.size
  have e : ((((w.alloc o).alloc (.cells #[x0, x1] t)).alloc (.cells #[y0, y1] u)).alloc (.cells #[z0, z1] v)).heap.size = w.heap.size + 4 := by simp
  rw [e] at hs
  exact ⟨keep hb (by simp <;> omega) (by simp [go_sem]), keep hb (by simp <;> omega) (by simp [go_sem]), keep hb (by simp <;> omega) (by simp [go_sem]), keep hb (by simp <;> omega) (by simp [go_sem]), keep hb (by simp <;> omega) (by simp [go_sem]), keep hb (by simp <;> omega) (by simp [go_sem]), by omega, by omega, by omega,
    (((((Below.refl _ _).alloc (Nat.le_refl _) _).alloc (by simp) _).alloc (by simp <;> omega) _).alloc (by simp <;> omega) _).trans (hb.mono (by simp <;> omega))⟩

set_option maxHeartbeats 4000000 in
set_option maxRecDepth 100000 in
theorem orders_lt1 (xh xl yh yl zh zl n : Int) (w : World) (xh0 : 0 ≤ xh) (xh1 : xh < 18446744073709551616) (xl0 : 0 ≤ xl) (xl1 : xl < 18446744073709551616) (yh0 : 0 ≤ yh) (yh1 : yh < 18446744073709551616) (yl0 : 0 ≤ yl) (yl1 : yl < 18446744073709551616) (zh0 : 0 ≤ zh) (zh1 : zh < 18446744073709551616) (zl0 : 0 ≤ zl) (zl1 : zl < 18446744073709551616) (n0 : 0 ≤ n) (n1 : n < 18446744073709551616) (hb : (xh == yh) = false) (ho : wn xh xl < wn yh yl) :
    Calls Try.prog 6 #[.agg #[.int .u64 xh, .int .u64 xl, .int .u64 yh, .int .u64 yl, .int .u64 zh, .int .u64 zl, .int .u64 n]] w fun e w' => e = .returned (.bool true) ∧ Below w.heap.size w w' := by
  obtain ⟨X0, X1⟩ := wn_bd xh xl xh0 xh1 xl0 xl1
  obtain ⟨Y0, Y1⟩ := wn_bd yh yl yh0 yh1 yl0 yl1
  obtain ⟨Z0, Z1⟩ := wn_bd zh zl zh0 zh1 zl0 zl1
  have PX : 0 ≤ wn xh xl * n := Int.mul_nonneg X0 n0
  have PY : 0 ≤ wn yh yl * n := Int.mul_nonneg Y0 n0
  have MM : wn xh xl * n ≤ wn yh yl * n := Int.mul_le_mul_of_nonneg_right (by omega) n0
  go_enter Try.func6, Try.ntmps6
  go_wp2_with fail
  (with_reducible refine (shown_any _).mono ?_)
  rintro e w1 ⟨rfl, hb1⟩
  obtain ⟨cx0, cx1, cy0, cy1, cz0, cz1, lcx, lcy, lcz, B1⟩ := boxes4 hb1
  clear hb1
  go_wp2_with fail
  (with_reducible refine (cmp_any xh xl yh yl _ xl0 xl1 yl0 yl1).mono ?_)
  rw [cmpI_lt ho]
  rintro e w2 ⟨rfl, hb2⟩
  have g2 := sizeB hb2
  have B2 := stepC B1 hb2
  replace cx0 := keep hb2 (by omega) cx0
  replace cx1 := keep hb2 (by omega) cx1
  replace cy0 := keep hb2 (by omega) cy0
  replace cy1 := keep hb2 (by omega) cy1
  replace cz0 := keep hb2 (by omega) cz0
  replace cz1 := keep hb2 (by omega) cz1
  replace lcx : w.heap.size + 1 < w2.heap.size := by omega
  replace lcy : w.heap.size + 1 + 1 < w2.heap.size := by omega
  replace lcz : w.heap.size + 1 + 1 + 1 < w2.heap.size := by omega
  clear hb2 g2 B1
  go_upto_region 7 with fail
  go_cut [58] (fun s58 wx => s58 = .bool false ∧ wx.cell? ⟨w.heap.size + 1, 0, none⟩ = some (.int .u64 xh) ∧ wx.cell? ⟨w.heap.size + 1, 1, none⟩ = some (.int .u64 xl) ∧ wx.cell? ⟨w.heap.size + 1 + 1, 0, none⟩ = some (.int .u64 yh) ∧ wx.cell? ⟨w.heap.size + 1 + 1, 1, none⟩ = some (.int .u64 yl) ∧ wx.cell? ⟨w.heap.size + 1 + 1 + 1, 0, none⟩ = some (.int .u64 zh) ∧ wx.cell? ⟨w.heap.size + 1 + 1 + 1, 1, none⟩ = some (.int .u64 zl) ∧ w.heap.size + 1 < wx.heap.size ∧ w.heap.size + 1 + 1 < wx.heap.size ∧ w.heap.size + 1 + 1 + 1 < wx.heap.size ∧ Below w.heap.size w wx)
  case first =>
    go_wp2_with fail
    (with_reducible refine (cmp_any yh yl xh xl _ yl0 yl1 xl0 xl1).mono ?_)
    rw [cmpI_gt ho]
    rintro e w3 ⟨rfl, hb3⟩
    have g3 := sizeB hb3
    have B3 := stepC B2 hb3
    replace cx0 := keep hb3 (by omega) cx0
    replace cx1 := keep hb3 (by omega) cx1
    replace cy0 := keep hb3 (by omega) cy0
    replace cy1 := keep hb3 (by omega) cy1
    replace cz0 := keep hb3 (by omega) cz0
    replace cz1 := keep hb3 (by omega) cz1
    replace lcx : w.heap.size + 1 < w3.heap.size := by omega
    replace lcy : w.heap.size + 1 + 1 < w3.heap.size := by omega
    replace lcz : w.heap.size + 1 + 1 + 1 < w3.heap.size := by omega
    clear hb3 g3 B2
    by_cases hz : wn yh yl ≤ wn zh zl
    · have hle := cmpI_le hz
      go_wp2_with fail
      (with_reducible refine (cmp_any yh yl zh zl _ yl0 yl1 zl0 zl1).mono ?_)
      rintro e w4 ⟨rfl, hb4⟩
      have g4 := sizeB hb4
      have B4 := stepC B3 hb4
      replace cx0 := keep hb4 (by omega) cx0
      replace cx1 := keep hb4 (by omega) cx1
      replace cy0 := keep hb4 (by omega) cy0
      replace cy1 := keep hb4 (by omega) cy1
      replace cz0 := keep hb4 (by omega) cz0
      replace cz1 := keep hb4 (by omega) cz1
      replace lcx : w.heap.size + 1 < w4.heap.size := by omega
      replace lcy : w.heap.size + 1 + 1 < w4.heap.size := by omega
      replace lcz : w.heap.size + 1 + 1 + 1 < w4.heap.size := by omega
      clear hb4 g4 B3
      have hle2 : decide (0 < cmpI (wn xh xl) (wn zh zl)) = false := cmpI_no (by omega)
      go_wp2_with fail
      (with_reducible refine (cmp_any xh xl zh zl _ xl0 xl1 zl0 zl1).mono ?_)
      rintro e w5 ⟨rfl, hb5⟩
      have g5 := sizeB hb5
      have B5 := stepC B4 hb5
      replace cx0 := keep hb5 (by omega) cx0
      replace cx1 := keep hb5 (by omega) cx1
      replace cy0 := keep hb5 (by omega) cy0
      replace cy1 := keep hb5 (by omega) cy1
      replace cz0 := keep hb5 (by omega) cz0
      replace cz1 := keep hb5 (by omega) cz1
      replace lcx : w.heap.size + 1 < w5.heap.size := by omega
      replace lcy : w.heap.size + 1 + 1 < w5.heap.size := by omega
      replace lcz : w.heap.size + 1 + 1 + 1 < w5.heap.size := by omega
      clear hb5 g5 B4
      go_wp2_with fail
      go_meet
      exact ⟨rfl, cx0, cx1, cy0, cy1, cz0, cz1, lcx, lcy, lcz, B5⟩
    · have hgt := cmpI_gt (show wn zh zl < wn yh yl by omega)
      go_wp2_with fail
      (with_reducible refine (cmp_any yh yl zh zl _ yl0 yl1 zl0 zl1).mono ?_)
      rw [hgt]
      rintro e w4 ⟨rfl, hb4⟩
      have g4 := sizeB hb4
      have B4 := stepC B3 hb4
      replace cx0 := keep hb4 (by omega) cx0
      replace cx1 := keep hb4 (by omega) cx1
      replace cy0 := keep hb4 (by omega) cy0
      replace cy1 := keep hb4 (by omega) cy1
      replace cz0 := keep hb4 (by omega) cz0
      replace cz1 := keep hb4 (by omega) cz1
      replace lcx : w.heap.size + 1 < w4.heap.size := by omega
      replace lcy : w.heap.size + 1 + 1 < w4.heap.size := by omega
      replace lcz : w.heap.size + 1 + 1 + 1 < w4.heap.size := by omega
      clear hb4 g4 B3
      go_wp2_with fail
      go_meet
      exact ⟨rfl, cx0, cx1, cy0, cy1, cz0, cz1, lcx, lcy, lcz, B4⟩
  case rest =>
    obtain ⟨rfl, cx0, cx1, cy0, cy1, cz0, cz1, lcx, lcy, lcz, Bc⟩ := hcut
    obtain ⟨wb, rfl⟩ : ∃ wb, wb = wc := ⟨_, rfl⟩
    go_wp2_with fail
    (with_reducible refine (add_any xh xl zh zl _ xl0 xl1 xh0 xh1 zl0 zl1 zh0 zh1).mono ?_)
    rintro e w3 ⟨rfl, hb3⟩
    have g3 := sizeB hb3
    have B3 := stepC Bc hb3
    replace cx0 := keep hb3 (by omega) cx0
    replace cx1 := keep hb3 (by omega) cx1
    replace cy0 := keep hb3 (by omega) cy0
    replace cy1 := keep hb3 (by omega) cy1
    replace cz0 := keep hb3 (by omega) cz0
    replace cz1 := keep hb3 (by omega) cz1
    replace lcx : w.heap.size + 1 < w3.heap.size := by omega
    replace lcy : w.heap.size + 1 + 1 < w3.heap.size := by omega
    replace lcz : w.heap.size + 1 + 1 + 1 < w3.heap.size := by omega
    clear hb3 g3 Bc
    go_wp2_with fail
    (with_reducible refine (add_any yh yl zh zl _ yl0 yl1 yh0 yh1 zl0 zl1 zh0 zh1).mono ?_)
    rintro e w4 ⟨rfl, hb4⟩
    have g4 := growA hb4
    have B4 := stepA B3 hb4
    replace cx0 := keepA hb4 (by omega) cx0
    replace cx1 := keepA hb4 (by omega) cx1
    replace cy0 := keepA hb4 (by omega) cy0
    replace cy1 := keepA hb4 (by omega) cy1
    replace cz0 := keepA hb4 (by omega) cz0
    replace cz1 := keepA hb4 (by omega) cz1
    replace lcx : w.heap.size + 1 < w4.heap.size := by omega
    replace lcy : w.heap.size + 1 + 1 < w4.heap.size := by omega
    replace lcz : w.heap.size + 1 + 1 + 1 < w4.heap.size := by omega
    obtain ⟨ca0, ca1⟩ := own2 hb4
    have lca : w3.heap.size < w4.heap.size := g4
    clear hb4 g4 B3
    go_upto_region 11 with fail
    go_cut [95] (fun s95 wx => s95 = .bool false ∧ wx.cell? ⟨w.heap.size + 1, 0, none⟩ = some (.int .u64 xh) ∧ wx.cell? ⟨w.heap.size + 1, 1, none⟩ = some (.int .u64 xl) ∧ wx.cell? ⟨w.heap.size + 1 + 1, 0, none⟩ = some (.int .u64 yh) ∧ wx.cell? ⟨w.heap.size + 1 + 1, 1, none⟩ = some (.int .u64 yl) ∧ w.heap.size + 1 < wx.heap.size ∧ w.heap.size + 1 + 1 < wx.heap.size ∧ Below w.heap.size w wx)
    case first =>
      by_cases hx : wn xh xl + wn zh zl < top
      · by_cases hy : wn yh yl + wn zh zl < top
        · obtain ⟨e1, e2⟩ := vb_yes hx
          obtain ⟨f1, f2⟩ := vb_yes hy
          have S0 : 0 ≤ wn xh xl + wn zh zl := by omega
          have T0 : 0 ≤ wn yh yl + wn zh zl := by omega
          have hc2 : cmpI (wn xh xl + wn zh zl) (wn yh yl + wn zh zl) = -1 := cmpI_lt (by omega)
          have HC := Lib.hid hc2
          clear hc2
          go_wp2_with fail
          (with_reducible refine (cmp_any (vH (wn xh xl + wn zh zl)) (vL (wn xh xl + wn zh zl)) (vH (wn yh yl + wn zh zl)) (vL (wn yh yl + wn zh zl)) _ (vL_bd _).1 (vL_bd _).2 (vL_bd _).1 (vL_bd _).2).mono ?_)
          rw [wn_v hx, wn_v hy, HC.out]
          rintro e w5 ⟨rfl, hb5⟩
          have g5 := growA hb5
          have B5 := stepA B4 hb5
          replace cx0 := keepA hb5 (by omega) cx0
          replace cx1 := keepA hb5 (by omega) cx1
          replace cy0 := keepA hb5 (by omega) cy0
          replace cy1 := keepA hb5 (by omega) cy1
          replace cz0 := keepA hb5 (by omega) cz0
          replace cz1 := keepA hb5 (by omega) cz1
          replace ca0 := keepA hb5 (by omega) ca0
          replace ca1 := keepA hb5 (by omega) ca1
          replace lcx : w.heap.size + 1 < w5.heap.size := by omega
          replace lcy : w.heap.size + 1 + 1 < w5.heap.size := by omega
          replace lcz : w.heap.size + 1 + 1 + 1 < w5.heap.size := by omega
          replace lca : w3.heap.size < w5.heap.size := by omega
          clear hb5 g5 B4
          go_wp2_with fail
          go_meet
          exact ⟨rfl, cx0, cx1, cy0, cy1, lcx, lcy, B5⟩
        · obtain ⟨e1, e2⟩ := vb_yes hx
          obtain ⟨f1, f2⟩ := vb_no hy
          go_wp2_with fail
          go_meet
          exact ⟨rfl, new_cell cx0 lcx, new_cell cx1 lcx, new_cell cy0 lcy, new_cell cy1 lcy, by simp; omega, by simp; omega, B4.alloc B4.size _⟩
      · have hy : ¬ wn yh yl + wn zh zl < top := by omega
        obtain ⟨e1, e2⟩ := vb_no hx
        obtain ⟨f1, f2⟩ := vb_no hy
        go_wp2_with fail
        go_meet
        exact ⟨rfl, new_cell cx0 lcx, new_cell cx1 lcx, new_cell cy0 lcy, new_cell cy1 lcy, by simp; omega, by simp; omega, B4.alloc B4.size _⟩
    case rest =>
      clear cx0 cx1 cy0 cy1 cz0 cz1 lcx lcy lcz ca0 ca1 lca B4
      obtain ⟨rfl, cx0, cx1, cy0, cy1, lcx, lcy, Bd⟩ := hcut
      obtain ⟨wd, rfl⟩ : ∃ wd, wd = wc := ⟨_, rfl⟩
      go_wp2_with fail
      (with_reducible refine (times_any xh xl n _ xl0 xl1 xh0 xh1 n0 n1).mono ?_)
      rintro e w5 ⟨rfl, hb5⟩
      have g5 := sizeB hb5
      have B5 := stepC Bd hb5
      replace cx0 := keep hb5 (by omega) cx0
      replace cx1 := keep hb5 (by omega) cx1
      replace cy0 := keep hb5 (by omega) cy0
      replace cy1 := keep hb5 (by omega) cy1
      replace lcx : w.heap.size + 1 < w5.heap.size := by omega
      replace lcy : w.heap.size + 1 + 1 < w5.heap.size := by omega
      clear hb5 g5 Bd
      go_wp2_with fail
      (with_reducible refine (times_any yh yl n _ yl0 yl1 yh0 yh1 n0 n1).mono ?_)
      rintro e w6 ⟨rfl, hb6⟩
      have g6 := growA hb6
      have B6 := stepA B5 hb6
      replace cx0 := keepA hb6 (by omega) cx0
      replace cx1 := keepA hb6 (by omega) cx1
      replace cy0 := keepA hb6 (by omega) cy0
      replace cy1 := keepA hb6 (by omega) cy1
      replace lcx : w.heap.size + 1 < w6.heap.size := by omega
      replace lcy : w.heap.size + 1 + 1 < w6.heap.size := by omega
      obtain ⟨cp0, cp1⟩ := own2 hb6
      have lcp : w5.heap.size < w6.heap.size := g6
      clear hb6 g6 B5
      by_cases hx : wn xh xl * n < top
      · by_cases hy : wn yh yl * n < top
        · by_cases hn : n = 0
          · obtain ⟨e1, e2, e3⟩ := v_yes hx
            obtain ⟨f1, f2, f3⟩ := v_yes hy
            have tn : (n == 0) = true := beq_iff_eq.2 hn
            go_wp2_with fail
            go_ret
            exact ⟨rfl, B6.alloc B6.size _⟩
          · obtain ⟨e1, e2, e3⟩ := v_yes hx
            obtain ⟨f1, f2, f3⟩ := v_yes hy
            have tn : (n == 0) = false := beq_eq_false_iff_ne.2 hn
            have hc3 : cmpI (wn xh xl * n) (wn yh yl * n) = -1 := cmpI_lt (Int.mul_lt_mul_of_pos_right ho (by omega))
            go_wp2_with fail
            (with_reducible refine (cmp_any (hi (wn xh xl * n)) (lo (wn xh xl * n)) (hi (wn yh yl * n)) (lo (wn yh yl * n)) _ (lo_bd _).1 (lo_bd _).2 (lo_bd _).1 (lo_bd _).2).mono ?_)
            rw [wn_hi_lo, wn_hi_lo, hc3]
            rintro e w7 ⟨rfl, hb7⟩
            have g7 := growA hb7
            have B7 := stepA B6 hb7
            replace cx0 := keepA hb7 (by omega) cx0
            replace cx1 := keepA hb7 (by omega) cx1
            replace cy0 := keepA hb7 (by omega) cy0
            replace cy1 := keepA hb7 (by omega) cy1
            replace cp0 := keepA hb7 (by omega) cp0
            replace cp1 := keepA hb7 (by omega) cp1
            replace lcx : w.heap.size + 1 < w7.heap.size := by omega
            replace lcy : w.heap.size + 1 + 1 < w7.heap.size := by omega
            replace lcp : w5.heap.size < w7.heap.size := by omega
            clear hb7 g7 B6
            go_wp2_with fail
            go_ret
            exact ⟨rfl, B7⟩
        · obtain ⟨e1, e2, e3⟩ := v_yes hx
          obtain ⟨f1, f2, f3⟩ := v_no hy
          go_wp2_with fail
          go_ret
          exact ⟨rfl, B6.alloc B6.size _⟩
      · have hy : ¬ wn yh yl * n < top := by omega
        obtain ⟨e1, e2, e3⟩ := v_no hx
        obtain ⟨f1, f2, f3⟩ := v_no hy
        go_wp2_with fail
        go_ret
        exact ⟨rfl, B6.alloc B6.size _⟩

set_option maxHeartbeats 4000000 in
set_option maxRecDepth 100000 in
theorem orders_lt2 (xh xl yl zh zl n : Int) (w : World) (xh0 : 0 ≤ xh) (xh1 : xh < 18446744073709551616) (xl0 : 0 ≤ xl) (xl1 : xl < 18446744073709551616) (yl0 : 0 ≤ yl) (yl1 : yl < 18446744073709551616) (zh0 : 0 ≤ zh) (zh1 : zh < 18446744073709551616) (zl0 : 0 ≤ zl) (zl1 : zl < 18446744073709551616) (n0 : 0 ≤ n) (n1 : n < 18446744073709551616) (hb : (xl == yl) = false) (ho : wn xh xl < wn xh yl) :
    Calls Try.prog 6 #[.agg #[.int .u64 xh, .int .u64 xl, .int .u64 xh, .int .u64 yl, .int .u64 zh, .int .u64 zl, .int .u64 n]] w fun e w' => e = .returned (.bool true) ∧ Below w.heap.size w w' := by
  obtain ⟨X0, X1⟩ := wn_bd xh xl xh0 xh1 xl0 xl1
  obtain ⟨Y0, Y1⟩ := wn_bd xh yl xh0 xh1 yl0 yl1
  obtain ⟨Z0, Z1⟩ := wn_bd zh zl zh0 zh1 zl0 zl1
  have PX : 0 ≤ wn xh xl * n := Int.mul_nonneg X0 n0
  have PY : 0 ≤ wn xh yl * n := Int.mul_nonneg Y0 n0
  have MM : wn xh xl * n ≤ wn xh yl * n := Int.mul_le_mul_of_nonneg_right (by omega) n0
  go_enter Try.func6, Try.ntmps6
  go_wp2_with fail
  (with_reducible refine (shown_any _).mono ?_)
  rintro e w1 ⟨rfl, hb1⟩
  obtain ⟨cx0, cx1, cy0, cy1, cz0, cz1, lcx, lcy, lcz, B1⟩ := boxes4 hb1
  clear hb1
  go_wp2_with fail
  (with_reducible refine (cmp_any xh xl xh yl _ xl0 xl1 yl0 yl1).mono ?_)
  rw [cmpI_lt ho]
  rintro e w2 ⟨rfl, hb2⟩
  have g2 := sizeB hb2
  have B2 := stepC B1 hb2
  replace cx0 := keep hb2 (by omega) cx0
  replace cx1 := keep hb2 (by omega) cx1
  replace cy0 := keep hb2 (by omega) cy0
  replace cy1 := keep hb2 (by omega) cy1
  replace cz0 := keep hb2 (by omega) cz0
  replace cz1 := keep hb2 (by omega) cz1
  replace lcx : w.heap.size + 1 < w2.heap.size := by omega
  replace lcy : w.heap.size + 1 + 1 < w2.heap.size := by omega
  replace lcz : w.heap.size + 1 + 1 + 1 < w2.heap.size := by omega
  clear hb2 g2 B1
  go_upto_region 7 with fail
  go_cut [58] (fun s58 wx => s58 = .bool false ∧ wx.cell? ⟨w.heap.size + 1, 0, none⟩ = some (.int .u64 xh) ∧ wx.cell? ⟨w.heap.size + 1, 1, none⟩ = some (.int .u64 xl) ∧ wx.cell? ⟨w.heap.size + 1 + 1, 0, none⟩ = some (.int .u64 xh) ∧ wx.cell? ⟨w.heap.size + 1 + 1, 1, none⟩ = some (.int .u64 yl) ∧ wx.cell? ⟨w.heap.size + 1 + 1 + 1, 0, none⟩ = some (.int .u64 zh) ∧ wx.cell? ⟨w.heap.size + 1 + 1 + 1, 1, none⟩ = some (.int .u64 zl) ∧ w.heap.size + 1 < wx.heap.size ∧ w.heap.size + 1 + 1 < wx.heap.size ∧ w.heap.size + 1 + 1 + 1 < wx.heap.size ∧ Below w.heap.size w wx)
  case first =>
    go_wp2_with fail
    (with_reducible refine (cmp_any xh yl xh xl _ yl0 yl1 xl0 xl1).mono ?_)
    rw [cmpI_gt ho]
    rintro e w3 ⟨rfl, hb3⟩
    have g3 := sizeB hb3
    have B3 := stepC B2 hb3
    replace cx0 := keep hb3 (by omega) cx0
    replace cx1 := keep hb3 (by omega) cx1
    replace cy0 := keep hb3 (by omega) cy0
    replace cy1 := keep hb3 (by omega) cy1
    replace cz0 := keep hb3 (by omega) cz0
    replace cz1 := keep hb3 (by omega) cz1
    replace lcx : w.heap.size + 1 < w3.heap.size := by omega
    replace lcy : w.heap.size + 1 + 1 < w3.heap.size := by omega
    replace lcz : w.heap.size + 1 + 1 + 1 < w3.heap.size := by omega
    clear hb3 g3 B2
    by_cases hz : wn xh yl ≤ wn zh zl
    · have hle := cmpI_le hz
      go_wp2_with fail
      (with_reducible refine (cmp_any xh yl zh zl _ yl0 yl1 zl0 zl1).mono ?_)
      rintro e w4 ⟨rfl, hb4⟩
      have g4 := sizeB hb4
      have B4 := stepC B3 hb4
      replace cx0 := keep hb4 (by omega) cx0
      replace cx1 := keep hb4 (by omega) cx1
      replace cy0 := keep hb4 (by omega) cy0
      replace cy1 := keep hb4 (by omega) cy1
      replace cz0 := keep hb4 (by omega) cz0
      replace cz1 := keep hb4 (by omega) cz1
      replace lcx : w.heap.size + 1 < w4.heap.size := by omega
      replace lcy : w.heap.size + 1 + 1 < w4.heap.size := by omega
      replace lcz : w.heap.size + 1 + 1 + 1 < w4.heap.size := by omega
      clear hb4 g4 B3
      have hle2 : decide (0 < cmpI (wn xh xl) (wn zh zl)) = false := cmpI_no (by omega)
      go_wp2_with fail
      (with_reducible refine (cmp_any xh xl zh zl _ xl0 xl1 zl0 zl1).mono ?_)
      rintro e w5 ⟨rfl, hb5⟩
      have g5 := sizeB hb5
      have B5 := stepC B4 hb5
      replace cx0 := keep hb5 (by omega) cx0
      replace cx1 := keep hb5 (by omega) cx1
      replace cy0 := keep hb5 (by omega) cy0
      replace cy1 := keep hb5 (by omega) cy1
      replace cz0 := keep hb5 (by omega) cz0
      replace cz1 := keep hb5 (by omega) cz1
      replace lcx : w.heap.size + 1 < w5.heap.size := by omega
      replace lcy : w.heap.size + 1 + 1 < w5.heap.size := by omega
      replace lcz : w.heap.size + 1 + 1 + 1 < w5.heap.size := by omega
      clear hb5 g5 B4
      go_wp2_with fail
      go_meet
      exact ⟨rfl, cx0, cx1, cy0, cy1, cz0, cz1, lcx, lcy, lcz, B5⟩
    · have hgt := cmpI_gt (show wn zh zl < wn xh yl by omega)
      go_wp2_with fail
      (with_reducible refine (cmp_any xh yl zh zl _ yl0 yl1 zl0 zl1).mono ?_)
      rw [hgt]
      rintro e w4 ⟨rfl, hb4⟩
      have g4 := sizeB hb4
      have B4 := stepC B3 hb4
      replace cx0 := keep hb4 (by omega) cx0
      replace cx1 := keep hb4 (by omega) cx1
      replace cy0 := keep hb4 (by omega) cy0
      replace cy1 := keep hb4 (by omega) cy1
      replace cz0 := keep hb4 (by omega) cz0
      replace cz1 := keep hb4 (by omega) cz1
      replace lcx : w.heap.size + 1 < w4.heap.size := by omega
      replace lcy : w.heap.size + 1 + 1 < w4.heap.size := by omega
      replace lcz : w.heap.size + 1 + 1 + 1 < w4.heap.size := by omega
      clear hb4 g4 B3
      go_wp2_with fail
      go_meet
      exact ⟨rfl, cx0, cx1, cy0, cy1, cz0, cz1, lcx, lcy, lcz, B4⟩
  case rest =>
    obtain ⟨rfl, cx0, cx1, cy0, cy1, cz0, cz1, lcx, lcy, lcz, Bc⟩ := hcut
    obtain ⟨wb, rfl⟩ : ∃ wb, wb = wc := ⟨_, rfl⟩
    go_wp2_with fail
    (with_reducible refine (add_any xh xl zh zl _ xl0 xl1 xh0 xh1 zl0 zl1 zh0 zh1).mono ?_)
    rintro e w3 ⟨rfl, hb3⟩
    have g3 := sizeB hb3
    have B3 := stepC Bc hb3
    replace cx0 := keep hb3 (by omega) cx0
    replace cx1 := keep hb3 (by omega) cx1
    replace cy0 := keep hb3 (by omega) cy0
    replace cy1 := keep hb3 (by omega) cy1
    replace cz0 := keep hb3 (by omega) cz0
    replace cz1 := keep hb3 (by omega) cz1
    replace lcx : w.heap.size + 1 < w3.heap.size := by omega
    replace lcy : w.heap.size + 1 + 1 < w3.heap.size := by omega
    replace lcz : w.heap.size + 1 + 1 + 1 < w3.heap.size := by omega
    clear hb3 g3 Bc
    go_wp2_with fail
    (with_reducible refine (add_any xh yl zh zl _ yl0 yl1 xh0 xh1 zl0 zl1 zh0 zh1).mono ?_)
    rintro e w4 ⟨rfl, hb4⟩
    have g4 := growA hb4
    have B4 := stepA B3 hb4
    replace cx0 := keepA hb4 (by omega) cx0
    replace cx1 := keepA hb4 (by omega) cx1
    replace cy0 := keepA hb4 (by omega) cy0
    replace cy1 := keepA hb4 (by omega) cy1
    replace cz0 := keepA hb4 (by omega) cz0
    replace cz1 := keepA hb4 (by omega) cz1
    replace lcx : w.heap.size + 1 < w4.heap.size := by omega
    replace lcy : w.heap.size + 1 + 1 < w4.heap.size := by omega
    replace lcz : w.heap.size + 1 + 1 + 1 < w4.heap.size := by omega
    obtain ⟨ca0, ca1⟩ := own2 hb4
    have lca : w3.heap.size < w4.heap.size := g4
    clear hb4 g4 B3
    go_upto_region 11 with fail
    go_cut [95] (fun s95 wx => s95 = .bool false ∧ wx.cell? ⟨w.heap.size + 1, 0, none⟩ = some (.int .u64 xh) ∧ wx.cell? ⟨w.heap.size + 1, 1, none⟩ = some (.int .u64 xl) ∧ wx.cell? ⟨w.heap.size + 1 + 1, 0, none⟩ = some (.int .u64 xh) ∧ wx.cell? ⟨w.heap.size + 1 + 1, 1, none⟩ = some (.int .u64 yl) ∧ w.heap.size + 1 < wx.heap.size ∧ w.heap.size + 1 + 1 < wx.heap.size ∧ Below w.heap.size w wx)
    case first =>
      by_cases hx : wn xh xl + wn zh zl < top
      · by_cases hy : wn xh yl + wn zh zl < top
        · obtain ⟨e1, e2⟩ := vb_yes hx
          obtain ⟨f1, f2⟩ := vb_yes hy
          have S0 : 0 ≤ wn xh xl + wn zh zl := by omega
          have T0 : 0 ≤ wn xh yl + wn zh zl := by omega
          have hc2 : cmpI (wn xh xl + wn zh zl) (wn xh yl + wn zh zl) = -1 := cmpI_lt (by omega)
          have HC := Lib.hid hc2
          clear hc2
          go_wp2_with fail
          (with_reducible refine (cmp_any (vH (wn xh xl + wn zh zl)) (vL (wn xh xl + wn zh zl)) (vH (wn xh yl + wn zh zl)) (vL (wn xh yl + wn zh zl)) _ (vL_bd _).1 (vL_bd _).2 (vL_bd _).1 (vL_bd _).2).mono ?_)
          rw [wn_v hx, wn_v hy, HC.out]
          rintro e w5 ⟨rfl, hb5⟩
          have g5 := growA hb5
          have B5 := stepA B4 hb5
          replace cx0 := keepA hb5 (by omega) cx0
          replace cx1 := keepA hb5 (by omega) cx1
          replace cy0 := keepA hb5 (by omega) cy0
          replace cy1 := keepA hb5 (by omega) cy1
          replace cz0 := keepA hb5 (by omega) cz0
          replace cz1 := keepA hb5 (by omega) cz1
          replace ca0 := keepA hb5 (by omega) ca0
          replace ca1 := keepA hb5 (by omega) ca1
          replace lcx : w.heap.size + 1 < w5.heap.size := by omega
          replace lcy : w.heap.size + 1 + 1 < w5.heap.size := by omega
          replace lcz : w.heap.size + 1 + 1 + 1 < w5.heap.size := by omega
          replace lca : w3.heap.size < w5.heap.size := by omega
          clear hb5 g5 B4
          go_wp2_with fail
          go_meet
          exact ⟨rfl, cx0, cx1, cy0, cy1, lcx, lcy, B5⟩
        · obtain ⟨e1, e2⟩ := vb_yes hx
          obtain ⟨f1, f2⟩ := vb_no hy
          go_wp2_with fail
          go_meet
          exact ⟨rfl, new_cell cx0 lcx, new_cell cx1 lcx, new_cell cy0 lcy, new_cell cy1 lcy, by simp; omega, by simp; omega, B4.alloc B4.size _⟩
      · have hy : ¬ wn xh yl + wn zh zl < top := by omega
        obtain ⟨e1, e2⟩ := vb_no hx
        obtain ⟨f1, f2⟩ := vb_no hy
        go_wp2_with fail
        go_meet
        exact ⟨rfl, new_cell cx0 lcx, new_cell cx1 lcx, new_cell cy0 lcy, new_cell cy1 lcy, by simp; omega, by simp; omega, B4.alloc B4.size _⟩
    case rest =>
      clear cx0 cx1 cy0 cy1 cz0 cz1 lcx lcy lcz ca0 ca1 lca B4
      obtain ⟨rfl, cx0, cx1, cy0, cy1, lcx, lcy, Bd⟩ := hcut
      obtain ⟨wd, rfl⟩ : ∃ wd, wd = wc := ⟨_, rfl⟩
      go_wp2_with fail
      (with_reducible refine (times_any xh xl n _ xl0 xl1 xh0 xh1 n0 n1).mono ?_)
      rintro e w5 ⟨rfl, hb5⟩
      have g5 := sizeB hb5
      have B5 := stepC Bd hb5
      replace cx0 := keep hb5 (by omega) cx0
      replace cx1 := keep hb5 (by omega) cx1
      replace cy0 := keep hb5 (by omega) cy0
      replace cy1 := keep hb5 (by omega) cy1
      replace lcx : w.heap.size + 1 < w5.heap.size := by omega
      replace lcy : w.heap.size + 1 + 1 < w5.heap.size := by omega
      clear hb5 g5 Bd
      go_wp2_with fail
      (with_reducible refine (times_any xh yl n _ yl0 yl1 xh0 xh1 n0 n1).mono ?_)
      rintro e w6 ⟨rfl, hb6⟩
      have g6 := growA hb6
      have B6 := stepA B5 hb6
      replace cx0 := keepA hb6 (by omega) cx0
      replace cx1 := keepA hb6 (by omega) cx1
      replace cy0 := keepA hb6 (by omega) cy0
      replace cy1 := keepA hb6 (by omega) cy1
      replace lcx : w.heap.size + 1 < w6.heap.size := by omega
      replace lcy : w.heap.size + 1 + 1 < w6.heap.size := by omega
      obtain ⟨cp0, cp1⟩ := own2 hb6
      have lcp : w5.heap.size < w6.heap.size := g6
      clear hb6 g6 B5
      by_cases hx : wn xh xl * n < top
      · by_cases hy : wn xh yl * n < top
        · by_cases hn : n = 0
          · obtain ⟨e1, e2, e3⟩ := v_yes hx
            obtain ⟨f1, f2, f3⟩ := v_yes hy
            have tn : (n == 0) = true := beq_iff_eq.2 hn
            go_wp2_with fail
            go_ret
            exact ⟨rfl, B6.alloc B6.size _⟩
          · obtain ⟨e1, e2, e3⟩ := v_yes hx
            obtain ⟨f1, f2, f3⟩ := v_yes hy
            have tn : (n == 0) = false := beq_eq_false_iff_ne.2 hn
            have hc3 : cmpI (wn xh xl * n) (wn xh yl * n) = -1 := cmpI_lt (Int.mul_lt_mul_of_pos_right ho (by omega))
            go_wp2_with fail
            (with_reducible refine (cmp_any (hi (wn xh xl * n)) (lo (wn xh xl * n)) (hi (wn xh yl * n)) (lo (wn xh yl * n)) _ (lo_bd _).1 (lo_bd _).2 (lo_bd _).1 (lo_bd _).2).mono ?_)
            rw [wn_hi_lo, wn_hi_lo, hc3]
            rintro e w7 ⟨rfl, hb7⟩
            have g7 := growA hb7
            have B7 := stepA B6 hb7
            replace cx0 := keepA hb7 (by omega) cx0
            replace cx1 := keepA hb7 (by omega) cx1
            replace cy0 := keepA hb7 (by omega) cy0
            replace cy1 := keepA hb7 (by omega) cy1
            replace cp0 := keepA hb7 (by omega) cp0
            replace cp1 := keepA hb7 (by omega) cp1
            replace lcx : w.heap.size + 1 < w7.heap.size := by omega
            replace lcy : w.heap.size + 1 + 1 < w7.heap.size := by omega
            replace lcp : w5.heap.size < w7.heap.size := by omega
            clear hb7 g7 B6
            go_wp2_with fail
            go_ret
            exact ⟨rfl, B7⟩
        · obtain ⟨e1, e2, e3⟩ := v_yes hx
          obtain ⟨f1, f2, f3⟩ := v_no hy
          go_wp2_with fail
          go_ret
          exact ⟨rfl, B6.alloc B6.size _⟩
      · have hy : ¬ wn xh yl * n < top := by omega
        obtain ⟨e1, e2, e3⟩ := v_no hx
        obtain ⟨f1, f2, f3⟩ := v_no hy
        go_wp2_with fail
        go_ret
        exact ⟨rfl, B6.alloc B6.size _⟩

set_option maxHeartbeats 4000000 in
set_option maxRecDepth 100000 in
theorem orders_eq (xh xl zh zl n : Int) (w : World) (xh0 : 0 ≤ xh) (xh1 : xh < 18446744073709551616) (xl0 : 0 ≤ xl) (xl1 : xl < 18446744073709551616) (zh0 : 0 ≤ zh) (zh1 : zh < 18446744073709551616) (zl0 : 0 ≤ zl) (zl1 : zl < 18446744073709551616) (n0 : 0 ≤ n) (n1 : n < 18446744073709551616)  :
    Calls Try.prog 6 #[.agg #[.int .u64 xh, .int .u64 xl, .int .u64 xh, .int .u64 xl, .int .u64 zh, .int .u64 zl, .int .u64 n]] w fun e w' => e = .returned (.bool true) ∧ Below w.heap.size w w' := by
  obtain ⟨X0, X1⟩ := wn_bd xh xl xh0 xh1 xl0 xl1
  obtain ⟨Y0, Y1⟩ := wn_bd xh xl xh0 xh1 xl0 xl1
  obtain ⟨Z0, Z1⟩ := wn_bd zh zl zh0 zh1 zl0 zl1
  have PX : 0 ≤ wn xh xl * n := Int.mul_nonneg X0 n0
  have PY : 0 ≤ wn xh xl * n := Int.mul_nonneg Y0 n0
  go_enter Try.func6, Try.ntmps6
  go_wp2_with fail
  (with_reducible refine (shown_any _).mono ?_)
  rintro e w1 ⟨rfl, hb1⟩
  obtain ⟨cx0, cx1, cy0, cy1, cz0, cz1, lcx, lcy, lcz, B1⟩ := boxes4 hb1
  clear hb1
  go_wp2_with fail
  (with_reducible refine (cmp_any xh xl xh xl _ xl0 xl1 xl0 xl1).mono ?_)
  rw [cmpI_eq (show wn xh xl = wn xh xl from rfl)]
  rintro e w2 ⟨rfl, hb2⟩
  have g2 := sizeB hb2
  have B2 := stepC B1 hb2
  replace cx0 := keep hb2 (by omega) cx0
  replace cx1 := keep hb2 (by omega) cx1
  replace cy0 := keep hb2 (by omega) cy0
  replace cy1 := keep hb2 (by omega) cy1
  replace cz0 := keep hb2 (by omega) cz0
  replace cz1 := keep hb2 (by omega) cz1
  replace lcx : w.heap.size + 1 < w2.heap.size := by omega
  replace lcy : w.heap.size + 1 + 1 < w2.heap.size := by omega
  replace lcz : w.heap.size + 1 + 1 + 1 < w2.heap.size := by omega
  clear hb2 g2 B1
  go_upto_region 7 with fail
  go_cut [58] (fun s58 wx => s58 = .bool false ∧ wx.cell? ⟨w.heap.size + 1, 0, none⟩ = some (.int .u64 xh) ∧ wx.cell? ⟨w.heap.size + 1, 1, none⟩ = some (.int .u64 xl) ∧ wx.cell? ⟨w.heap.size + 1 + 1, 0, none⟩ = some (.int .u64 xh) ∧ wx.cell? ⟨w.heap.size + 1 + 1, 1, none⟩ = some (.int .u64 xl) ∧ wx.cell? ⟨w.heap.size + 1 + 1 + 1, 0, none⟩ = some (.int .u64 zh) ∧ wx.cell? ⟨w.heap.size + 1 + 1 + 1, 1, none⟩ = some (.int .u64 zl) ∧ w.heap.size + 1 < wx.heap.size ∧ w.heap.size + 1 + 1 < wx.heap.size ∧ w.heap.size + 1 + 1 + 1 < wx.heap.size ∧ Below w.heap.size w wx)
  case first =>
    go_wp2_with fail
    (with_reducible refine (cmp_any xh xl xh xl _ xl0 xl1 xl0 xl1).mono ?_)
    rw [cmpI_eq (show wn xh xl = wn xh xl from rfl)]
    rintro e w3 ⟨rfl, hb3⟩
    have g3 := sizeB hb3
    have B3 := stepC B2 hb3
    replace cx0 := keep hb3 (by omega) cx0
    replace cx1 := keep hb3 (by omega) cx1
    replace cy0 := keep hb3 (by omega) cy0
    replace cy1 := keep hb3 (by omega) cy1
    replace cz0 := keep hb3 (by omega) cz0
    replace cz1 := keep hb3 (by omega) cz1
    replace lcx : w.heap.size + 1 < w3.heap.size := by omega
    replace lcy : w.heap.size + 1 + 1 < w3.heap.size := by omega
    replace lcz : w.heap.size + 1 + 1 + 1 < w3.heap.size := by omega
    clear hb3 g3 B2
    by_cases hz : wn xh xl ≤ wn zh zl
    · have hle := cmpI_le hz
      go_wp2_with fail
      (with_reducible refine (cmp_any xh xl zh zl _ xl0 xl1 zl0 zl1).mono ?_)
      rintro e w4 ⟨rfl, hb4⟩
      have g4 := sizeB hb4
      have B4 := stepC B3 hb4
      replace cx0 := keep hb4 (by omega) cx0
      replace cx1 := keep hb4 (by omega) cx1
      replace cy0 := keep hb4 (by omega) cy0
      replace cy1 := keep hb4 (by omega) cy1
      replace cz0 := keep hb4 (by omega) cz0
      replace cz1 := keep hb4 (by omega) cz1
      replace lcx : w.heap.size + 1 < w4.heap.size := by omega
      replace lcy : w.heap.size + 1 + 1 < w4.heap.size := by omega
      replace lcz : w.heap.size + 1 + 1 + 1 < w4.heap.size := by omega
      clear hb4 g4 B3
      have hle2 : decide (0 < cmpI (wn xh xl) (wn zh zl)) = false := cmpI_no (by omega)
      go_wp2_with fail
      (with_reducible refine (cmp_any xh xl zh zl _ xl0 xl1 zl0 zl1).mono ?_)
      rintro e w5 ⟨rfl, hb5⟩
      have g5 := sizeB hb5
      have B5 := stepC B4 hb5
      replace cx0 := keep hb5 (by omega) cx0
      replace cx1 := keep hb5 (by omega) cx1
      replace cy0 := keep hb5 (by omega) cy0
      replace cy1 := keep hb5 (by omega) cy1
      replace cz0 := keep hb5 (by omega) cz0
      replace cz1 := keep hb5 (by omega) cz1
      replace lcx : w.heap.size + 1 < w5.heap.size := by omega
      replace lcy : w.heap.size + 1 + 1 < w5.heap.size := by omega
      replace lcz : w.heap.size + 1 + 1 + 1 < w5.heap.size := by omega
      clear hb5 g5 B4
      go_wp2_with fail
      go_meet
      exact ⟨rfl, cx0, cx1, cy0, cy1, cz0, cz1, lcx, lcy, lcz, B5⟩
    · have hgt := cmpI_gt (show wn zh zl < wn xh xl by omega)
      go_wp2_with fail
      (with_reducible refine (cmp_any xh xl zh zl _ xl0 xl1 zl0 zl1).mono ?_)
      rw [hgt]
      rintro e w4 ⟨rfl, hb4⟩
      have g4 := sizeB hb4
      have B4 := stepC B3 hb4
      replace cx0 := keep hb4 (by omega) cx0
      replace cx1 := keep hb4 (by omega) cx1
      replace cy0 := keep hb4 (by omega) cy0
      replace cy1 := keep hb4 (by omega) cy1
      replace cz0 := keep hb4 (by omega) cz0
      replace cz1 := keep hb4 (by omega) cz1
      replace lcx : w.heap.size + 1 < w4.heap.size := by omega
      replace lcy : w.heap.size + 1 + 1 < w4.heap.size := by omega
      replace lcz : w.heap.size + 1 + 1 + 1 < w4.heap.size := by omega
      clear hb4 g4 B3
      go_wp2_with fail
      go_meet
      exact ⟨rfl, cx0, cx1, cy0, cy1, cz0, cz1, lcx, lcy, lcz, B4⟩
  case rest =>
    obtain ⟨rfl, cx0, cx1, cy0, cy1, cz0, cz1, lcx, lcy, lcz, Bc⟩ := hcut
    obtain ⟨wb, rfl⟩ : ∃ wb, wb = wc := ⟨_, rfl⟩
    go_wp2_with fail
    (with_reducible refine (add_any xh xl zh zl _ xl0 xl1 xh0 xh1 zl0 zl1 zh0 zh1).mono ?_)
    rintro e w3 ⟨rfl, hb3⟩
    have g3 := sizeB hb3
    have B3 := stepC Bc hb3
    replace cx0 := keep hb3 (by omega) cx0
    replace cx1 := keep hb3 (by omega) cx1
    replace cy0 := keep hb3 (by omega) cy0
    replace cy1 := keep hb3 (by omega) cy1
    replace cz0 := keep hb3 (by omega) cz0
    replace cz1 := keep hb3 (by omega) cz1
    replace lcx : w.heap.size + 1 < w3.heap.size := by omega
    replace lcy : w.heap.size + 1 + 1 < w3.heap.size := by omega
    replace lcz : w.heap.size + 1 + 1 + 1 < w3.heap.size := by omega
    clear hb3 g3 Bc
    go_wp2_with fail
    (with_reducible refine (add_any xh xl zh zl _ xl0 xl1 xh0 xh1 zl0 zl1 zh0 zh1).mono ?_)
    rintro e w4 ⟨rfl, hb4⟩
    have g4 := growA hb4
    have B4 := stepA B3 hb4
    replace cx0 := keepA hb4 (by omega) cx0
    replace cx1 := keepA hb4 (by omega) cx1
    replace cy0 := keepA hb4 (by omega) cy0
    replace cy1 := keepA hb4 (by omega) cy1
    replace cz0 := keepA hb4 (by omega) cz0
    replace cz1 := keepA hb4 (by omega) cz1
    replace lcx : w.heap.size + 1 < w4.heap.size := by omega
    replace lcy : w.heap.size + 1 + 1 < w4.heap.size := by omega
    replace lcz : w.heap.size + 1 + 1 + 1 < w4.heap.size := by omega
    obtain ⟨ca0, ca1⟩ := own2 hb4
    have lca : w3.heap.size < w4.heap.size := g4
    clear hb4 g4 B3
    go_upto_region 11 with fail
    go_cut [95] (fun s95 wx => s95 = .bool false ∧ wx.cell? ⟨w.heap.size + 1, 0, none⟩ = some (.int .u64 xh) ∧ wx.cell? ⟨w.heap.size + 1, 1, none⟩ = some (.int .u64 xl) ∧ wx.cell? ⟨w.heap.size + 1 + 1, 0, none⟩ = some (.int .u64 xh) ∧ wx.cell? ⟨w.heap.size + 1 + 1, 1, none⟩ = some (.int .u64 xl) ∧ w.heap.size + 1 < wx.heap.size ∧ w.heap.size + 1 + 1 < wx.heap.size ∧ Below w.heap.size w wx)
    case first =>
      by_cases hx : wn xh xl + wn zh zl < top
      · have hy := hx
        obtain ⟨e1, e2⟩ := vb_yes hx
        obtain ⟨f1, f2⟩ := vb_yes hy
        have S0 : 0 ≤ wn xh xl + wn zh zl := by omega
        have T0 : 0 ≤ wn xh xl + wn zh zl := by omega
        have hc2 : cmpI (wn xh xl + wn zh zl) (wn xh xl + wn zh zl) = 0 := cmpI_eq (by omega)
        have HC := Lib.hid hc2
        clear hc2
        go_wp2_with fail
        (with_reducible refine (cmp_any (vH (wn xh xl + wn zh zl)) (vL (wn xh xl + wn zh zl)) (vH (wn xh xl + wn zh zl)) (vL (wn xh xl + wn zh zl)) _ (vL_bd _).1 (vL_bd _).2 (vL_bd _).1 (vL_bd _).2).mono ?_)
        rw [wn_v hx, HC.out]
        rintro e w5 ⟨rfl, hb5⟩
        have g5 := growA hb5
        have B5 := stepA B4 hb5
        replace cx0 := keepA hb5 (by omega) cx0
        replace cx1 := keepA hb5 (by omega) cx1
        replace cy0 := keepA hb5 (by omega) cy0
        replace cy1 := keepA hb5 (by omega) cy1
        replace cz0 := keepA hb5 (by omega) cz0
        replace cz1 := keepA hb5 (by omega) cz1
        replace ca0 := keepA hb5 (by omega) ca0
        replace ca1 := keepA hb5 (by omega) ca1
        replace lcx : w.heap.size + 1 < w5.heap.size := by omega
        replace lcy : w.heap.size + 1 + 1 < w5.heap.size := by omega
        replace lcz : w.heap.size + 1 + 1 + 1 < w5.heap.size := by omega
        replace lca : w3.heap.size < w5.heap.size := by omega
        clear hb5 g5 B4
        go_wp2_with fail
        go_meet
        exact ⟨rfl, cx0, cx1, cy0, cy1, lcx, lcy, B5⟩
      · have hy := hx
        obtain ⟨e1, e2⟩ := vb_no hx
        obtain ⟨f1, f2⟩ := vb_no hy
        go_wp2_with fail
        go_meet
        exact ⟨rfl, new_cell cx0 lcx, new_cell cx1 lcx, new_cell cy0 lcy, new_cell cy1 lcy, by simp; omega, by simp; omega, B4.alloc B4.size _⟩
    case rest =>
      clear cx0 cx1 cy0 cy1 cz0 cz1 lcx lcy lcz ca0 ca1 lca B4
      obtain ⟨rfl, cx0, cx1, cy0, cy1, lcx, lcy, Bd⟩ := hcut
      obtain ⟨wd, rfl⟩ : ∃ wd, wd = wc := ⟨_, rfl⟩
      go_wp2_with fail
      (with_reducible refine (times_any xh xl n _ xl0 xl1 xh0 xh1 n0 n1).mono ?_)
      rintro e w5 ⟨rfl, hb5⟩
      have g5 := sizeB hb5
      have B5 := stepC Bd hb5
      replace cx0 := keep hb5 (by omega) cx0
      replace cx1 := keep hb5 (by omega) cx1
      replace cy0 := keep hb5 (by omega) cy0
      replace cy1 := keep hb5 (by omega) cy1
      replace lcx : w.heap.size + 1 < w5.heap.size := by omega
      replace lcy : w.heap.size + 1 + 1 < w5.heap.size := by omega
      clear hb5 g5 Bd
      go_wp2_with fail
      (with_reducible refine (times_any xh xl n _ xl0 xl1 xh0 xh1 n0 n1).mono ?_)
      rintro e w6 ⟨rfl, hb6⟩
      have g6 := growA hb6
      have B6 := stepA B5 hb6
      replace cx0 := keepA hb6 (by omega) cx0
      replace cx1 := keepA hb6 (by omega) cx1
      replace cy0 := keepA hb6 (by omega) cy0
      replace cy1 := keepA hb6 (by omega) cy1
      replace lcx : w.heap.size + 1 < w6.heap.size := by omega
      replace lcy : w.heap.size + 1 + 1 < w6.heap.size := by omega
      obtain ⟨cp0, cp1⟩ := own2 hb6
      have lcp : w5.heap.size < w6.heap.size := g6
      clear hb6 g6 B5
      by_cases hx : wn xh xl * n < top
      · have hy := hx
        by_cases hn : n = 0
        · obtain ⟨e1, e2, e3⟩ := v_yes hx
          obtain ⟨f1, f2, f3⟩ := v_yes hy
          have tn : (n == 0) = true := beq_iff_eq.2 hn
          go_wp2_with fail
          go_ret
          exact ⟨rfl, B6.alloc B6.size _⟩
        · obtain ⟨e1, e2, e3⟩ := v_yes hx
          obtain ⟨f1, f2, f3⟩ := v_yes hy
          have tn : (n == 0) = false := beq_eq_false_iff_ne.2 hn
          have hc3 : cmpI (wn xh xl * n) (wn xh xl * n) = 0 := cmpI_eq rfl
          go_wp2_with fail
          (with_reducible refine (cmp_any (hi (wn xh xl * n)) (lo (wn xh xl * n)) (hi (wn xh xl * n)) (lo (wn xh xl * n)) _ (lo_bd _).1 (lo_bd _).2 (lo_bd _).1 (lo_bd _).2).mono ?_)
          rw [wn_hi_lo, hc3]
          rintro e w7 ⟨rfl, hb7⟩
          have g7 := growA hb7
          have B7 := stepA B6 hb7
          replace cx0 := keepA hb7 (by omega) cx0
          replace cx1 := keepA hb7 (by omega) cx1
          replace cy0 := keepA hb7 (by omega) cy0
          replace cy1 := keepA hb7 (by omega) cy1
          replace cp0 := keepA hb7 (by omega) cp0
          replace cp1 := keepA hb7 (by omega) cp1
          replace lcx : w.heap.size + 1 < w7.heap.size := by omega
          replace lcy : w.heap.size + 1 + 1 < w7.heap.size := by omega
          replace lcp : w5.heap.size < w7.heap.size := by omega
          clear hb7 g7 B6
          go_wp2_with fail
          go_ret
          exact ⟨rfl, B7⟩
      · have hy := hx
        obtain ⟨e1, e2, e3⟩ := v_no hx
        obtain ⟨f1, f2, f3⟩ := v_no hy
        go_wp2_with fail
        go_ret
        exact ⟨rfl, B6.alloc B6.size _⟩

set_option maxHeartbeats 4000000 in
set_option maxRecDepth 100000 in
theorem orders_gt1 (xh xl yh yl zh zl n : Int) (w : World) (xh0 : 0 ≤ xh) (xh1 : xh < 18446744073709551616) (xl0 : 0 ≤ xl) (xl1 : xl < 18446744073709551616) (yh0 : 0 ≤ yh) (yh1 : yh < 18446744073709551616) (yl0 : 0 ≤ yl) (yl1 : yl < 18446744073709551616) (zh0 : 0 ≤ zh) (zh1 : zh < 18446744073709551616) (zl0 : 0 ≤ zl) (zl1 : zl < 18446744073709551616) (n0 : 0 ≤ n) (n1 : n < 18446744073709551616) (hb : (xh == yh) = false) (ho : wn yh yl < wn xh xl) :
    Calls Try.prog 6 #[.agg #[.int .u64 xh, .int .u64 xl, .int .u64 yh, .int .u64 yl, .int .u64 zh, .int .u64 zl, .int .u64 n]] w fun e w' => e = .returned (.bool true) ∧ Below w.heap.size w w' := by
  obtain ⟨X0, X1⟩ := wn_bd xh xl xh0 xh1 xl0 xl1
  obtain ⟨Y0, Y1⟩ := wn_bd yh yl yh0 yh1 yl0 yl1
  obtain ⟨Z0, Z1⟩ := wn_bd zh zl zh0 zh1 zl0 zl1
  have PX : 0 ≤ wn xh xl * n := Int.mul_nonneg X0 n0
  have PY : 0 ≤ wn yh yl * n := Int.mul_nonneg Y0 n0
  have MM : wn yh yl * n ≤ wn xh xl * n := Int.mul_le_mul_of_nonneg_right (by omega) n0
  go_enter Try.func6, Try.ntmps6
  go_wp2_with fail
  (with_reducible refine (shown_any _).mono ?_)
  rintro e w1 ⟨rfl, hb1⟩
  obtain ⟨cx0, cx1, cy0, cy1, cz0, cz1, lcx, lcy, lcz, B1⟩ := boxes4 hb1
  clear hb1
  go_wp2_with fail
  (with_reducible refine (cmp_any xh xl yh yl _ xl0 xl1 yl0 yl1).mono ?_)
  rw [cmpI_gt ho]
  rintro e w2 ⟨rfl, hb2⟩
  have g2 := sizeB hb2
  have B2 := stepC B1 hb2
  replace cx0 := keep hb2 (by omega) cx0
  replace cx1 := keep hb2 (by omega) cx1
  replace cy0 := keep hb2 (by omega) cy0
  replace cy1 := keep hb2 (by omega) cy1
  replace cz0 := keep hb2 (by omega) cz0
  replace cz1 := keep hb2 (by omega) cz1
  replace lcx : w.heap.size + 1 < w2.heap.size := by omega
  replace lcy : w.heap.size + 1 + 1 < w2.heap.size := by omega
  replace lcz : w.heap.size + 1 + 1 + 1 < w2.heap.size := by omega
  clear hb2 g2 B1
  go_upto_region 7 with fail
  go_cut [58] (fun s58 wx => s58 = .bool false ∧ wx.cell? ⟨w.heap.size + 1, 0, none⟩ = some (.int .u64 xh) ∧ wx.cell? ⟨w.heap.size + 1, 1, none⟩ = some (.int .u64 xl) ∧ wx.cell? ⟨w.heap.size + 1 + 1, 0, none⟩ = some (.int .u64 yh) ∧ wx.cell? ⟨w.heap.size + 1 + 1, 1, none⟩ = some (.int .u64 yl) ∧ wx.cell? ⟨w.heap.size + 1 + 1 + 1, 0, none⟩ = some (.int .u64 zh) ∧ wx.cell? ⟨w.heap.size + 1 + 1 + 1, 1, none⟩ = some (.int .u64 zl) ∧ w.heap.size + 1 < wx.heap.size ∧ w.heap.size + 1 + 1 < wx.heap.size ∧ w.heap.size + 1 + 1 + 1 < wx.heap.size ∧ Below w.heap.size w wx)
  case first =>
    go_wp2_with fail
    (with_reducible refine (cmp_any yh yl xh xl _ yl0 yl1 xl0 xl1).mono ?_)
    rw [cmpI_lt ho]
    rintro e w3 ⟨rfl, hb3⟩
    have g3 := sizeB hb3
    have B3 := stepC B2 hb3
    replace cx0 := keep hb3 (by omega) cx0
    replace cx1 := keep hb3 (by omega) cx1
    replace cy0 := keep hb3 (by omega) cy0
    replace cy1 := keep hb3 (by omega) cy1
    replace cz0 := keep hb3 (by omega) cz0
    replace cz1 := keep hb3 (by omega) cz1
    replace lcx : w.heap.size + 1 < w3.heap.size := by omega
    replace lcy : w.heap.size + 1 + 1 < w3.heap.size := by omega
    replace lcz : w.heap.size + 1 + 1 + 1 < w3.heap.size := by omega
    clear hb3 g3 B2
    go_wp2_with fail
    go_meet
    exact ⟨rfl, cx0, cx1, cy0, cy1, cz0, cz1, lcx, lcy, lcz, B3⟩
  case rest =>
    obtain ⟨rfl, cx0, cx1, cy0, cy1, cz0, cz1, lcx, lcy, lcz, Bc⟩ := hcut
    obtain ⟨wb, rfl⟩ : ∃ wb, wb = wc := ⟨_, rfl⟩
    go_wp2_with fail
    (with_reducible refine (add_any xh xl zh zl _ xl0 xl1 xh0 xh1 zl0 zl1 zh0 zh1).mono ?_)
    rintro e w3 ⟨rfl, hb3⟩
    have g3 := sizeB hb3
    have B3 := stepC Bc hb3
    replace cx0 := keep hb3 (by omega) cx0
    replace cx1 := keep hb3 (by omega) cx1
    replace cy0 := keep hb3 (by omega) cy0
    replace cy1 := keep hb3 (by omega) cy1
    replace cz0 := keep hb3 (by omega) cz0
    replace cz1 := keep hb3 (by omega) cz1
    replace lcx : w.heap.size + 1 < w3.heap.size := by omega
    replace lcy : w.heap.size + 1 + 1 < w3.heap.size := by omega
    replace lcz : w.heap.size + 1 + 1 + 1 < w3.heap.size := by omega
    clear hb3 g3 Bc
    go_wp2_with fail
    (with_reducible refine (add_any yh yl zh zl _ yl0 yl1 yh0 yh1 zl0 zl1 zh0 zh1).mono ?_)
    rintro e w4 ⟨rfl, hb4⟩
    have g4 := growA hb4
    have B4 := stepA B3 hb4
    replace cx0 := keepA hb4 (by omega) cx0
    replace cx1 := keepA hb4 (by omega) cx1
    replace cy0 := keepA hb4 (by omega) cy0
    replace cy1 := keepA hb4 (by omega) cy1
    replace cz0 := keepA hb4 (by omega) cz0
    replace cz1 := keepA hb4 (by omega) cz1
    replace lcx : w.heap.size + 1 < w4.heap.size := by omega
    replace lcy : w.heap.size + 1 + 1 < w4.heap.size := by omega
    replace lcz : w.heap.size + 1 + 1 + 1 < w4.heap.size := by omega
    obtain ⟨ca0, ca1⟩ := own2 hb4
    have lca : w3.heap.size < w4.heap.size := g4
    clear hb4 g4 B3
    go_upto_region 11 with fail
    go_cut [95] (fun s95 wx => s95 = .bool false ∧ wx.cell? ⟨w.heap.size + 1, 0, none⟩ = some (.int .u64 xh) ∧ wx.cell? ⟨w.heap.size + 1, 1, none⟩ = some (.int .u64 xl) ∧ wx.cell? ⟨w.heap.size + 1 + 1, 0, none⟩ = some (.int .u64 yh) ∧ wx.cell? ⟨w.heap.size + 1 + 1, 1, none⟩ = some (.int .u64 yl) ∧ w.heap.size + 1 < wx.heap.size ∧ w.heap.size + 1 + 1 < wx.heap.size ∧ Below w.heap.size w wx)
    case first =>
      by_cases hx : wn xh xl + wn zh zl < top
      · by_cases hy : wn yh yl + wn zh zl < top
        · obtain ⟨e1, e2⟩ := vb_yes hx
          obtain ⟨f1, f2⟩ := vb_yes hy
          have S0 : 0 ≤ wn xh xl + wn zh zl := by omega
          have T0 : 0 ≤ wn yh yl + wn zh zl := by omega
          have hc2 : cmpI (wn xh xl + wn zh zl) (wn yh yl + wn zh zl) = 1 := cmpI_gt (by omega)
          have HC := Lib.hid hc2
          clear hc2
          go_wp2_with fail
          (with_reducible refine (cmp_any (vH (wn xh xl + wn zh zl)) (vL (wn xh xl + wn zh zl)) (vH (wn yh yl + wn zh zl)) (vL (wn yh yl + wn zh zl)) _ (vL_bd _).1 (vL_bd _).2 (vL_bd _).1 (vL_bd _).2).mono ?_)
          rw [wn_v hx, wn_v hy, HC.out]
          rintro e w5 ⟨rfl, hb5⟩
          have g5 := growA hb5
          have B5 := stepA B4 hb5
          replace cx0 := keepA hb5 (by omega) cx0
          replace cx1 := keepA hb5 (by omega) cx1
          replace cy0 := keepA hb5 (by omega) cy0
          replace cy1 := keepA hb5 (by omega) cy1
          replace cz0 := keepA hb5 (by omega) cz0
          replace cz1 := keepA hb5 (by omega) cz1
          replace ca0 := keepA hb5 (by omega) ca0
          replace ca1 := keepA hb5 (by omega) ca1
          replace lcx : w.heap.size + 1 < w5.heap.size := by omega
          replace lcy : w.heap.size + 1 + 1 < w5.heap.size := by omega
          replace lcz : w.heap.size + 1 + 1 + 1 < w5.heap.size := by omega
          replace lca : w3.heap.size < w5.heap.size := by omega
          clear hb5 g5 B4
          go_wp2_with fail
          go_meet
          exact ⟨rfl, cx0, cx1, cy0, cy1, lcx, lcy, B5⟩
        · exact absurd hx (by omega)
      · by_cases hy : wn yh yl + wn zh zl < top
        · obtain ⟨e1, e2⟩ := vb_no hx
          obtain ⟨f1, f2⟩ := vb_yes hy
          go_wp2_with fail
          go_meet
          exact ⟨rfl, new_cell cx0 lcx, new_cell cx1 lcx, new_cell cy0 lcy, new_cell cy1 lcy, by simp; omega, by simp; omega, B4.alloc B4.size _⟩
        · obtain ⟨e1, e2⟩ := vb_no hx
          obtain ⟨f1, f2⟩ := vb_no hy
          go_wp2_with fail
          go_meet
          exact ⟨rfl, new_cell cx0 lcx, new_cell cx1 lcx, new_cell cy0 lcy, new_cell cy1 lcy, by simp; omega, by simp; omega, B4.alloc B4.size _⟩
    case rest =>
      clear cx0 cx1 cy0 cy1 cz0 cz1 lcx lcy lcz ca0 ca1 lca B4
      obtain ⟨rfl, cx0, cx1, cy0, cy1, lcx, lcy, Bd⟩ := hcut
      obtain ⟨wd, rfl⟩ : ∃ wd, wd = wc := ⟨_, rfl⟩
      go_wp2_with fail
      (with_reducible refine (times_any xh xl n _ xl0 xl1 xh0 xh1 n0 n1).mono ?_)
      rintro e w5 ⟨rfl, hb5⟩
      have g5 := sizeB hb5
      have B5 := stepC Bd hb5
      replace cx0 := keep hb5 (by omega) cx0
      replace cx1 := keep hb5 (by omega) cx1
      replace cy0 := keep hb5 (by omega) cy0
      replace cy1 := keep hb5 (by omega) cy1
      replace lcx : w.heap.size + 1 < w5.heap.size := by omega
      replace lcy : w.heap.size + 1 + 1 < w5.heap.size := by omega
      clear hb5 g5 Bd
      go_wp2_with fail
      (with_reducible refine (times_any yh yl n _ yl0 yl1 yh0 yh1 n0 n1).mono ?_)
      rintro e w6 ⟨rfl, hb6⟩
      have g6 := growA hb6
      have B6 := stepA B5 hb6
      replace cx0 := keepA hb6 (by omega) cx0
      replace cx1 := keepA hb6 (by omega) cx1
      replace cy0 := keepA hb6 (by omega) cy0
      replace cy1 := keepA hb6 (by omega) cy1
      replace lcx : w.heap.size + 1 < w6.heap.size := by omega
      replace lcy : w.heap.size + 1 + 1 < w6.heap.size := by omega
      obtain ⟨cp0, cp1⟩ := own2 hb6
      have lcp : w5.heap.size < w6.heap.size := g6
      clear hb6 g6 B5
      by_cases hx : wn xh xl * n < top
      · have hy : wn yh yl * n < top := by omega
        by_cases hn : n = 0
        · obtain ⟨e1, e2, e3⟩ := v_yes hx
          obtain ⟨f1, f2, f3⟩ := v_yes hy
          have tn : (n == 0) = true := beq_iff_eq.2 hn
          go_wp2_with fail
          go_ret
          exact ⟨rfl, B6.alloc B6.size _⟩
        · obtain ⟨e1, e2, e3⟩ := v_yes hx
          obtain ⟨f1, f2, f3⟩ := v_yes hy
          have tn : (n == 0) = false := beq_eq_false_iff_ne.2 hn
          have hc3 : cmpI (wn xh xl * n) (wn yh yl * n) = 1 := cmpI_gt (Int.mul_lt_mul_of_pos_right ho (by omega))
          go_wp2_with fail
          (with_reducible refine (cmp_any (hi (wn xh xl * n)) (lo (wn xh xl * n)) (hi (wn yh yl * n)) (lo (wn yh yl * n)) _ (lo_bd _).1 (lo_bd _).2 (lo_bd _).1 (lo_bd _).2).mono ?_)
          rw [wn_hi_lo, wn_hi_lo, hc3]
          rintro e w7 ⟨rfl, hb7⟩
          have g7 := growA hb7
          have B7 := stepA B6 hb7
          replace cx0 := keepA hb7 (by omega) cx0
          replace cx1 := keepA hb7 (by omega) cx1
          replace cy0 := keepA hb7 (by omega) cy0
          replace cy1 := keepA hb7 (by omega) cy1
          replace cp0 := keepA hb7 (by omega) cp0
          replace cp1 := keepA hb7 (by omega) cp1
          replace lcx : w.heap.size + 1 < w7.heap.size := by omega
          replace lcy : w.heap.size + 1 + 1 < w7.heap.size := by omega
          replace lcp : w5.heap.size < w7.heap.size := by omega
          clear hb7 g7 B6
          go_wp2_with fail
          go_ret
          exact ⟨rfl, B7⟩
      · by_cases hy : wn yh yl * n < top
        · obtain ⟨e1, e2, e3⟩ := v_no hx
          obtain ⟨f1, f2, f3⟩ := v_yes hy
          go_wp2_with fail
          go_ret
          exact ⟨rfl, B6.alloc B6.size _⟩
        · obtain ⟨e1, e2, e3⟩ := v_no hx
          obtain ⟨f1, f2, f3⟩ := v_no hy
          go_wp2_with fail
          go_ret
          exact ⟨rfl, B6.alloc B6.size _⟩

set_option maxHeartbeats 4000000 in
set_option maxRecDepth 100000 in
theorem orders_gt2 (xh xl yl zh zl n : Int) (w : World) (xh0 : 0 ≤ xh) (xh1 : xh < 18446744073709551616) (xl0 : 0 ≤ xl) (xl1 : xl < 18446744073709551616) (yl0 : 0 ≤ yl) (yl1 : yl < 18446744073709551616) (zh0 : 0 ≤ zh) (zh1 : zh < 18446744073709551616) (zl0 : 0 ≤ zl) (zl1 : zl < 18446744073709551616) (n0 : 0 ≤ n) (n1 : n < 18446744073709551616) (hb : (xl == yl) = false) (ho : wn xh yl < wn xh xl) :
    Calls Try.prog 6 #[.agg #[.int .u64 xh, .int .u64 xl, .int .u64 xh, .int .u64 yl, .int .u64 zh, .int .u64 zl, .int .u64 n]] w fun e w' => e = .returned (.bool true) ∧ Below w.heap.size w w' := by
  obtain ⟨X0, X1⟩ := wn_bd xh xl xh0 xh1 xl0 xl1
  obtain ⟨Y0, Y1⟩ := wn_bd xh yl xh0 xh1 yl0 yl1
  obtain ⟨Z0, Z1⟩ := wn_bd zh zl zh0 zh1 zl0 zl1
  have PX : 0 ≤ wn xh xl * n := Int.mul_nonneg X0 n0
  have PY : 0 ≤ wn xh yl * n := Int.mul_nonneg Y0 n0
  have MM : wn xh yl * n ≤ wn xh xl * n := Int.mul_le_mul_of_nonneg_right (by omega) n0
  go_enter Try.func6, Try.ntmps6
  go_wp2_with fail
  (with_reducible refine (shown_any _).mono ?_)
  rintro e w1 ⟨rfl, hb1⟩
  obtain ⟨cx0, cx1, cy0, cy1, cz0, cz1, lcx, lcy, lcz, B1⟩ := boxes4 hb1
  clear hb1
  go_wp2_with fail
  (with_reducible refine (cmp_any xh xl xh yl _ xl0 xl1 yl0 yl1).mono ?_)
  rw [cmpI_gt ho]
  rintro e w2 ⟨rfl, hb2⟩
  have g2 := sizeB hb2
  have B2 := stepC B1 hb2
  replace cx0 := keep hb2 (by omega) cx0
  replace cx1 := keep hb2 (by omega) cx1
  replace cy0 := keep hb2 (by omega) cy0
  replace cy1 := keep hb2 (by omega) cy1
  replace cz0 := keep hb2 (by omega) cz0
  replace cz1 := keep hb2 (by omega) cz1
  replace lcx : w.heap.size + 1 < w2.heap.size := by omega
  replace lcy : w.heap.size + 1 + 1 < w2.heap.size := by omega
  replace lcz : w.heap.size + 1 + 1 + 1 < w2.heap.size := by omega
  clear hb2 g2 B1
  go_upto_region 7 with fail
  go_cut [58] (fun s58 wx => s58 = .bool false ∧ wx.cell? ⟨w.heap.size + 1, 0, none⟩ = some (.int .u64 xh) ∧ wx.cell? ⟨w.heap.size + 1, 1, none⟩ = some (.int .u64 xl) ∧ wx.cell? ⟨w.heap.size + 1 + 1, 0, none⟩ = some (.int .u64 xh) ∧ wx.cell? ⟨w.heap.size + 1 + 1, 1, none⟩ = some (.int .u64 yl) ∧ wx.cell? ⟨w.heap.size + 1 + 1 + 1, 0, none⟩ = some (.int .u64 zh) ∧ wx.cell? ⟨w.heap.size + 1 + 1 + 1, 1, none⟩ = some (.int .u64 zl) ∧ w.heap.size + 1 < wx.heap.size ∧ w.heap.size + 1 + 1 < wx.heap.size ∧ w.heap.size + 1 + 1 + 1 < wx.heap.size ∧ Below w.heap.size w wx)
  case first =>
    go_wp2_with fail
    (with_reducible refine (cmp_any xh yl xh xl _ yl0 yl1 xl0 xl1).mono ?_)
    rw [cmpI_lt ho]
    rintro e w3 ⟨rfl, hb3⟩
    have g3 := sizeB hb3
    have B3 := stepC B2 hb3
    replace cx0 := keep hb3 (by omega) cx0
    replace cx1 := keep hb3 (by omega) cx1
    replace cy0 := keep hb3 (by omega) cy0
    replace cy1 := keep hb3 (by omega) cy1
    replace cz0 := keep hb3 (by omega) cz0
    replace cz1 := keep hb3 (by omega) cz1
    replace lcx : w.heap.size + 1 < w3.heap.size := by omega
    replace lcy : w.heap.size + 1 + 1 < w3.heap.size := by omega
    replace lcz : w.heap.size + 1 + 1 + 1 < w3.heap.size := by omega
    clear hb3 g3 B2
    go_wp2_with fail
    go_meet
    exact ⟨rfl, cx0, cx1, cy0, cy1, cz0, cz1, lcx, lcy, lcz, B3⟩
  case rest =>
    obtain ⟨rfl, cx0, cx1, cy0, cy1, cz0, cz1, lcx, lcy, lcz, Bc⟩ := hcut
    obtain ⟨wb, rfl⟩ : ∃ wb, wb = wc := ⟨_, rfl⟩
    go_wp2_with fail
    (with_reducible refine (add_any xh xl zh zl _ xl0 xl1 xh0 xh1 zl0 zl1 zh0 zh1).mono ?_)
    rintro e w3 ⟨rfl, hb3⟩
    have g3 := sizeB hb3
    have B3 := stepC Bc hb3
    replace cx0 := keep hb3 (by omega) cx0
    replace cx1 := keep hb3 (by omega) cx1
    replace cy0 := keep hb3 (by omega) cy0
    replace cy1 := keep hb3 (by omega) cy1
    replace cz0 := keep hb3 (by omega) cz0
    replace cz1 := keep hb3 (by omega) cz1
    replace lcx : w.heap.size + 1 < w3.heap.size := by omega
    replace lcy : w.heap.size + 1 + 1 < w3.heap.size := by omega
    replace lcz : w.heap.size + 1 + 1 + 1 < w3.heap.size := by omega
    clear hb3 g3 Bc
    go_wp2_with fail
    (with_reducible refine (add_any xh yl zh zl _ yl0 yl1 xh0 xh1 zl0 zl1 zh0 zh1).mono ?_)
    rintro e w4 ⟨rfl, hb4⟩
    have g4 := growA hb4
    have B4 := stepA B3 hb4
    replace cx0 := keepA hb4 (by omega) cx0
    replace cx1 := keepA hb4 (by omega) cx1
    replace cy0 := keepA hb4 (by omega) cy0
    replace cy1 := keepA hb4 (by omega) cy1
    replace cz0 := keepA hb4 (by omega) cz0
    replace cz1 := keepA hb4 (by omega) cz1
    replace lcx : w.heap.size + 1 < w4.heap.size := by omega
    replace lcy : w.heap.size + 1 + 1 < w4.heap.size := by omega
    replace lcz : w.heap.size + 1 + 1 + 1 < w4.heap.size := by omega
    obtain ⟨ca0, ca1⟩ := own2 hb4
    have lca : w3.heap.size < w4.heap.size := g4
    clear hb4 g4 B3
    go_upto_region 11 with fail
    go_cut [95] (fun s95 wx => s95 = .bool false ∧ wx.cell? ⟨w.heap.size + 1, 0, none⟩ = some (.int .u64 xh) ∧ wx.cell? ⟨w.heap.size + 1, 1, none⟩ = some (.int .u64 xl) ∧ wx.cell? ⟨w.heap.size + 1 + 1, 0, none⟩ = some (.int .u64 xh) ∧ wx.cell? ⟨w.heap.size + 1 + 1, 1, none⟩ = some (.int .u64 yl) ∧ w.heap.size + 1 < wx.heap.size ∧ w.heap.size + 1 + 1 < wx.heap.size ∧ Below w.heap.size w wx)
    case first =>
      by_cases hx : wn xh xl + wn zh zl < top
      · by_cases hy : wn xh yl + wn zh zl < top
        · obtain ⟨e1, e2⟩ := vb_yes hx
          obtain ⟨f1, f2⟩ := vb_yes hy
          have S0 : 0 ≤ wn xh xl + wn zh zl := by omega
          have T0 : 0 ≤ wn xh yl + wn zh zl := by omega
          have hc2 : cmpI (wn xh xl + wn zh zl) (wn xh yl + wn zh zl) = 1 := cmpI_gt (by omega)
          have HC := Lib.hid hc2
          clear hc2
          go_wp2_with fail
          (with_reducible refine (cmp_any (vH (wn xh xl + wn zh zl)) (vL (wn xh xl + wn zh zl)) (vH (wn xh yl + wn zh zl)) (vL (wn xh yl + wn zh zl)) _ (vL_bd _).1 (vL_bd _).2 (vL_bd _).1 (vL_bd _).2).mono ?_)
          rw [wn_v hx, wn_v hy, HC.out]
          rintro e w5 ⟨rfl, hb5⟩
          have g5 := growA hb5
          have B5 := stepA B4 hb5
          replace cx0 := keepA hb5 (by omega) cx0
          replace cx1 := keepA hb5 (by omega) cx1
          replace cy0 := keepA hb5 (by omega) cy0
          replace cy1 := keepA hb5 (by omega) cy1
          replace cz0 := keepA hb5 (by omega) cz0
          replace cz1 := keepA hb5 (by omega) cz1
          replace ca0 := keepA hb5 (by omega) ca0
          replace ca1 := keepA hb5 (by omega) ca1
          replace lcx : w.heap.size + 1 < w5.heap.size := by omega
          replace lcy : w.heap.size + 1 + 1 < w5.heap.size := by omega
          replace lcz : w.heap.size + 1 + 1 + 1 < w5.heap.size := by omega
          replace lca : w3.heap.size < w5.heap.size := by omega
          clear hb5 g5 B4
          go_wp2_with fail
          go_meet
          exact ⟨rfl, cx0, cx1, cy0, cy1, lcx, lcy, B5⟩
        · exact absurd hx (by omega)
      · by_cases hy : wn xh yl + wn zh zl < top
        · obtain ⟨e1, e2⟩ := vb_no hx
          obtain ⟨f1, f2⟩ := vb_yes hy
          go_wp2_with fail
          go_meet
          exact ⟨rfl, new_cell cx0 lcx, new_cell cx1 lcx, new_cell cy0 lcy, new_cell cy1 lcy, by simp; omega, by simp; omega, B4.alloc B4.size _⟩
        · obtain ⟨e1, e2⟩ := vb_no hx
          obtain ⟨f1, f2⟩ := vb_no hy
          go_wp2_with fail
          go_meet
          exact ⟨rfl, new_cell cx0 lcx, new_cell cx1 lcx, new_cell cy0 lcy, new_cell cy1 lcy, by simp; omega, by simp; omega, B4.alloc B4.size _⟩
    case rest =>
      clear cx0 cx1 cy0 cy1 cz0 cz1 lcx lcy lcz ca0 ca1 lca B4
      obtain ⟨rfl, cx0, cx1, cy0, cy1, lcx, lcy, Bd⟩ := hcut
      obtain ⟨wd, rfl⟩ : ∃ wd, wd = wc := ⟨_, rfl⟩
      go_wp2_with fail
      (with_reducible refine (times_any xh xl n _ xl0 xl1 xh0 xh1 n0 n1).mono ?_)
      rintro e w5 ⟨rfl, hb5⟩
      have g5 := sizeB hb5
      have B5 := stepC Bd hb5
      replace cx0 := keep hb5 (by omega) cx0
      replace cx1 := keep hb5 (by omega) cx1
      replace cy0 := keep hb5 (by omega) cy0
      replace cy1 := keep hb5 (by omega) cy1
      replace lcx : w.heap.size + 1 < w5.heap.size := by omega
      replace lcy : w.heap.size + 1 + 1 < w5.heap.size := by omega
      clear hb5 g5 Bd
      go_wp2_with fail
      (with_reducible refine (times_any xh yl n _ yl0 yl1 xh0 xh1 n0 n1).mono ?_)
      rintro e w6 ⟨rfl, hb6⟩
      have g6 := growA hb6
      have B6 := stepA B5 hb6
      replace cx0 := keepA hb6 (by omega) cx0
      replace cx1 := keepA hb6 (by omega) cx1
      replace cy0 := keepA hb6 (by omega) cy0
      replace cy1 := keepA hb6 (by omega) cy1
      replace lcx : w.heap.size + 1 < w6.heap.size := by omega
      replace lcy : w.heap.size + 1 + 1 < w6.heap.size := by omega
      obtain ⟨cp0, cp1⟩ := own2 hb6
      have lcp : w5.heap.size < w6.heap.size := g6
      clear hb6 g6 B5
      by_cases hx : wn xh xl * n < top
      · have hy : wn xh yl * n < top := by omega
        by_cases hn : n = 0
        · obtain ⟨e1, e2, e3⟩ := v_yes hx
          obtain ⟨f1, f2, f3⟩ := v_yes hy
          have tn : (n == 0) = true := beq_iff_eq.2 hn
          go_wp2_with fail
          go_ret
          exact ⟨rfl, B6.alloc B6.size _⟩
        · obtain ⟨e1, e2, e3⟩ := v_yes hx
          obtain ⟨f1, f2, f3⟩ := v_yes hy
          have tn : (n == 0) = false := beq_eq_false_iff_ne.2 hn
          have hc3 : cmpI (wn xh xl * n) (wn xh yl * n) = 1 := cmpI_gt (Int.mul_lt_mul_of_pos_right ho (by omega))
          go_wp2_with fail
          (with_reducible refine (cmp_any (hi (wn xh xl * n)) (lo (wn xh xl * n)) (hi (wn xh yl * n)) (lo (wn xh yl * n)) _ (lo_bd _).1 (lo_bd _).2 (lo_bd _).1 (lo_bd _).2).mono ?_)
          rw [wn_hi_lo, wn_hi_lo, hc3]
          rintro e w7 ⟨rfl, hb7⟩
          have g7 := growA hb7
          have B7 := stepA B6 hb7
          replace cx0 := keepA hb7 (by omega) cx0
          replace cx1 := keepA hb7 (by omega) cx1
          replace cy0 := keepA hb7 (by omega) cy0
          replace cy1 := keepA hb7 (by omega) cy1
          replace cp0 := keepA hb7 (by omega) cp0
          replace cp1 := keepA hb7 (by omega) cp1
          replace lcx : w.heap.size + 1 < w7.heap.size := by omega
          replace lcy : w.heap.size + 1 + 1 < w7.heap.size := by omega
          replace lcp : w5.heap.size < w7.heap.size := by omega
          clear hb7 g7 B6
          go_wp2_with fail
          go_ret
          exact ⟨rfl, B7⟩
      · by_cases hy : wn xh yl * n < top
        · obtain ⟨e1, e2, e3⟩ := v_no hx
          obtain ⟨f1, f2, f3⟩ := v_yes hy
          go_wp2_with fail
          go_ret
          exact ⟨rfl, B6.alloc B6.size _⟩
        · obtain ⟨e1, e2, e3⟩ := v_no hx
          obtain ⟨f1, f2, f3⟩ := v_no hy
          go_wp2_with fail
          go_ret
          exact ⟨rfl, B6.alloc B6.size _⟩

end Go.Proofs.Ytcpifgoglcoeeaa
