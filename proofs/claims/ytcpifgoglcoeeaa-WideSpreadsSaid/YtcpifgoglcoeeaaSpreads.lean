/- WideSpreads: the walk of the statement's Go text. -/
import Derived.Test.YtcpifgoglcoeeaaLawKit
namespace Go.Proofs.Ytcpifgoglcoeeaa
open Go.RowKit

set_option maxHeartbeats 4000000 in
set_option maxRecDepth 100000 in
theorem spreads_walk (xh xl yh yl n : Int) (w : World) (xh0 : 0 ≤ xh) (xh1 : xh < 18446744073709551616) (xl0 : 0 ≤ xl) (xl1 : xl < 18446744073709551616)
    (yh0 : 0 ≤ yh) (yh1 : yh < 18446744073709551616) (yl0 : 0 ≤ yl) (yl1 : yl < 18446744073709551616) (n0 : 0 ≤ n) (n1 : n < 18446744073709551616) :
    Calls Try.prog 8 #[.agg #[.int .u64 xh, .int .u64 xl], .agg #[.int .u64 yh, .int .u64 yl], .int .u64 n] w fun e w' => e = .returned (.bool true) ∧ Below w.heap.size w w' := by
  obtain ⟨X0, X1⟩ := wn_bd xh xl xh0 xh1 xl0 xl1
  obtain ⟨Y0, Y1⟩ := wn_bd yh yl yh0 yh1 yl0 yl1
  have P0 : 0 ≤ wn xh xl * n := Int.mul_nonneg X0 n0
  have Q0 : 0 ≤ wn yh yl * n := Int.mul_nonneg Y0 n0
  have S0 : 0 ≤ wn xh xl + wn yh yl := by omega
  have dist : (wn xh xl + wn yh yl) * n = wn xh xl * n + wn yh yl * n := Int.add_mul _ _ _
  have DD := Lib.hid dist
  clear dist
  by_cases hs : wn xh xl + wn yh yl < top
  · by_cases hp : wn xh xl * n < top
    · by_cases hq : wn yh yl * n < top
      · by_cases hz : wn xh xl * n + wn yh yl * n < top
        · go_enter Try.func8, Try.ntmps8
          go_wp2_with fail
          refine (shown_any _).mono ?_
          rintro e w1 ⟨rfl, hb1⟩
          obtain ⟨cx0, cx1, cy0, cy1, lcx, lcy, B1⟩ := boxes2 hb1
          clear hb1
          go_wp2_with fail
          refine (add_yes xh xl yh yl _ xl0 xl1 xh0 xh1 yl0 yl1 yh0 yh1 hs).mono ?_
          rintro e w2 ⟨rfl, hb2⟩
          have g2 := sizeB hb2
          have B2 := stepC B1 hb2
          replace cx0 := keep hb2 (by omega) cx0
          replace cx1 := keep hb2 (by omega) cx1
          replace cy0 := keep hb2 (by omega) cy0
          replace cy1 := keep hb2 (by omega) cy1
          replace lcx : w.heap.size < w2.heap.size := by omega
          replace lcy : w.heap.size + 1 < w2.heap.size := by omega
          clear hb2 g2 B1
          go_wp2_with fail
          refine (times_yes xh xl n _ xl0 xl1 xh0 xh1 n0 n1 hp).mono ?_
          rintro e w3 ⟨rfl, hb3⟩
          have g3 := growA hb3
          have B3 := stepA B2 hb3
          replace cx0 := keepA hb3 (by omega) cx0
          replace cx1 := keepA hb3 (by omega) cx1
          replace cy0 := keepA hb3 (by omega) cy0
          replace cy1 := keepA hb3 (by omega) cy1
          replace lcx : w.heap.size < w3.heap.size := by omega
          replace lcy : w.heap.size + 1 < w3.heap.size := by omega
          obtain ⟨cs0, cs1⟩ := own2 hb3
          have lcs : w2.heap.size < w3.heap.size := g3
          clear hb3 g3 B2
          go_wp2_with fail
          refine (times_yes yh yl n _ yl0 yl1 yh0 yh1 n0 n1 hq).mono ?_
          rintro e w4 ⟨rfl, hb4⟩
          have g4 := growA hb4
          have B4 := stepA B3 hb4
          replace cx0 := keepA hb4 (by omega) cx0
          replace cx1 := keepA hb4 (by omega) cx1
          replace cy0 := keepA hb4 (by omega) cy0
          replace cy1 := keepA hb4 (by omega) cy1
          replace cs0 := keepA hb4 (by omega) cs0
          replace cs1 := keepA hb4 (by omega) cs1
          replace lcx : w.heap.size < w4.heap.size := by omega
          replace lcy : w.heap.size + 1 < w4.heap.size := by omega
          replace lcs : w2.heap.size < w4.heap.size := by omega
          obtain ⟨cp0, cp1⟩ := own2 hb4
          have lcp : w3.heap.size < w4.heap.size := g4
          clear hb4 g4 B3
          go_wp2_with fail
          refine (times_yes (hi (wn xh xl + wn yh yl)) (lo (wn xh xl + wn yh yl)) n _ (lo_bd _).1 (lo_bd _).2 (hi_bd _ S0 hs).1 (hi_bd _ S0 hs).2 n0 n1 (by rw [wn_hi_lo, DD.out]; exact hz)).mono ?_
          rw [wn_hi_lo, DD.out]
          rintro e w5 ⟨rfl, hb5⟩
          have g5 := growA hb5
          have B5 := stepA B4 hb5
          replace cx0 := keepA hb5 (by omega) cx0
          replace cx1 := keepA hb5 (by omega) cx1
          replace cy0 := keepA hb5 (by omega) cy0
          replace cy1 := keepA hb5 (by omega) cy1
          replace cs0 := keepA hb5 (by omega) cs0
          replace cs1 := keepA hb5 (by omega) cs1
          replace cp0 := keepA hb5 (by omega) cp0
          replace cp1 := keepA hb5 (by omega) cp1
          replace lcx : w.heap.size < w5.heap.size := by omega
          replace lcy : w.heap.size + 1 < w5.heap.size := by omega
          replace lcs : w2.heap.size < w5.heap.size := by omega
          replace lcp : w3.heap.size < w5.heap.size := by omega
          obtain ⟨cq0, cq1⟩ := own2 hb5
          have lcq : w4.heap.size < w5.heap.size := g5
          clear hb5 g5 B4
          go_wp2_with fail
          refine (add_yes (hi (wn xh xl * n)) (lo (wn xh xl * n)) (hi (wn yh yl * n)) (lo (wn yh yl * n)) _ (lo_bd _).1 (lo_bd _).2 (hi_bd _ P0 hp).1 (hi_bd _ P0 hp).2 (lo_bd _).1 (lo_bd _).2 (hi_bd _ Q0 hq).1 (hi_bd _ Q0 hq).2 (by rw [wn_hi_lo, wn_hi_lo]; exact hz)).mono ?_
          rw [wn_hi_lo, wn_hi_lo]
          rintro e w6 ⟨rfl, hb6⟩
          have g6 := growA hb6
          have B6 := stepA B5 hb6
          replace cx0 := keepA hb6 (by omega) cx0
          replace cx1 := keepA hb6 (by omega) cx1
          replace cy0 := keepA hb6 (by omega) cy0
          replace cy1 := keepA hb6 (by omega) cy1
          replace cs0 := keepA hb6 (by omega) cs0
          replace cs1 := keepA hb6 (by omega) cs1
          replace cp0 := keepA hb6 (by omega) cp0
          replace cp1 := keepA hb6 (by omega) cp1
          replace cq0 := keepA hb6 (by omega) cq0
          replace cq1 := keepA hb6 (by omega) cq1
          replace lcx : w.heap.size < w6.heap.size := by omega
          replace lcy : w.heap.size + 1 < w6.heap.size := by omega
          replace lcs : w2.heap.size < w6.heap.size := by omega
          replace lcp : w3.heap.size < w6.heap.size := by omega
          replace lcq : w4.heap.size < w6.heap.size := by omega
          obtain ⟨ct0, ct1⟩ := own2 hb6
          have lct : w5.heap.size < w6.heap.size := g6
          clear hb6 g6 B5
          have de : wn xh xl + wn yh yl - wn xh xl = wn yh yl := by omega
          have DE := Lib.hid de
          clear de
          go_wp2_with fail
          refine (sub_yes (hi (wn xh xl + wn yh yl)) (lo (wn xh xl + wn yh yl)) xh xl _ (lo_bd _).1 (lo_bd _).2 (hi_bd _ S0 hs).1 (hi_bd _ S0 hs).2 xl0 xl1 xh0 xh1 (by rw [wn_hi_lo]; omega)).mono ?_
          rw [wn_hi_lo, DE.out, hi_wn yh yl yl0 yl1, lo_wn yh yl yl0 yl1]
          rintro e w7 ⟨rfl, hb7⟩
          have g7 := growA hb7
          have B7 := stepA B6 hb7
          replace cx0 := keepA hb7 (by omega) cx0
          replace cx1 := keepA hb7 (by omega) cx1
          replace cy0 := keepA hb7 (by omega) cy0
          replace cy1 := keepA hb7 (by omega) cy1
          replace cs0 := keepA hb7 (by omega) cs0
          replace cs1 := keepA hb7 (by omega) cs1
          replace cp0 := keepA hb7 (by omega) cp0
          replace cp1 := keepA hb7 (by omega) cp1
          replace cq0 := keepA hb7 (by omega) cq0
          replace cq1 := keepA hb7 (by omega) cq1
          replace ct0 := keepA hb7 (by omega) ct0
          replace ct1 := keepA hb7 (by omega) ct1
          replace lcx : w.heap.size < w7.heap.size := by omega
          replace lcy : w.heap.size + 1 < w7.heap.size := by omega
          replace lcs : w2.heap.size < w7.heap.size := by omega
          replace lcp : w3.heap.size < w7.heap.size := by omega
          replace lcq : w4.heap.size < w7.heap.size := by omega
          replace lct : w5.heap.size < w7.heap.size := by omega
          obtain ⟨cu0, cu1⟩ := own2 hb7
          have lcu : w6.heap.size < w7.heap.size := g7
          clear hb7 g7 B6
          go_wp2_with fail
          go_ret
          exact ⟨rfl, B7.alloc B7.size _⟩
        · go_enter Try.func8, Try.ntmps8
          go_wp2_with fail
          refine (shown_any _).mono ?_
          rintro e w1 ⟨rfl, hb1⟩
          obtain ⟨cx0, cx1, cy0, cy1, lcx, lcy, B1⟩ := boxes2 hb1
          clear hb1
          go_wp2_with fail
          refine (add_yes xh xl yh yl _ xl0 xl1 xh0 xh1 yl0 yl1 yh0 yh1 hs).mono ?_
          rintro e w2 ⟨rfl, hb2⟩
          have g2 := sizeB hb2
          have B2 := stepC B1 hb2
          replace cx0 := keep hb2 (by omega) cx0
          replace cx1 := keep hb2 (by omega) cx1
          replace cy0 := keep hb2 (by omega) cy0
          replace cy1 := keep hb2 (by omega) cy1
          replace lcx : w.heap.size < w2.heap.size := by omega
          replace lcy : w.heap.size + 1 < w2.heap.size := by omega
          clear hb2 g2 B1
          go_wp2_with fail
          refine (times_yes xh xl n _ xl0 xl1 xh0 xh1 n0 n1 hp).mono ?_
          rintro e w3 ⟨rfl, hb3⟩
          have g3 := growA hb3
          have B3 := stepA B2 hb3
          replace cx0 := keepA hb3 (by omega) cx0
          replace cx1 := keepA hb3 (by omega) cx1
          replace cy0 := keepA hb3 (by omega) cy0
          replace cy1 := keepA hb3 (by omega) cy1
          replace lcx : w.heap.size < w3.heap.size := by omega
          replace lcy : w.heap.size + 1 < w3.heap.size := by omega
          obtain ⟨cs0, cs1⟩ := own2 hb3
          have lcs : w2.heap.size < w3.heap.size := g3
          clear hb3 g3 B2
          go_wp2_with fail
          refine (times_yes yh yl n _ yl0 yl1 yh0 yh1 n0 n1 hq).mono ?_
          rintro e w4 ⟨rfl, hb4⟩
          have g4 := growA hb4
          have B4 := stepA B3 hb4
          replace cx0 := keepA hb4 (by omega) cx0
          replace cx1 := keepA hb4 (by omega) cx1
          replace cy0 := keepA hb4 (by omega) cy0
          replace cy1 := keepA hb4 (by omega) cy1
          replace cs0 := keepA hb4 (by omega) cs0
          replace cs1 := keepA hb4 (by omega) cs1
          replace lcx : w.heap.size < w4.heap.size := by omega
          replace lcy : w.heap.size + 1 < w4.heap.size := by omega
          replace lcs : w2.heap.size < w4.heap.size := by omega
          obtain ⟨cp0, cp1⟩ := own2 hb4
          have lcp : w3.heap.size < w4.heap.size := g4
          clear hb4 g4 B3
          go_wp2_with fail
          refine (times_no (hi (wn xh xl + wn yh yl)) (lo (wn xh xl + wn yh yl)) n _ (lo_bd _).1 (lo_bd _).2 (hi_bd _ S0 hs).1 (hi_bd _ S0 hs).2 n0 n1 (by rw [wn_hi_lo, DD.out]; omega)).mono ?_
          rintro e w5 ⟨rfl, hb5⟩
          have g5 := growA hb5
          have B5 := stepA B4 hb5
          replace cx0 := keepA hb5 (by omega) cx0
          replace cx1 := keepA hb5 (by omega) cx1
          replace cy0 := keepA hb5 (by omega) cy0
          replace cy1 := keepA hb5 (by omega) cy1
          replace cs0 := keepA hb5 (by omega) cs0
          replace cs1 := keepA hb5 (by omega) cs1
          replace cp0 := keepA hb5 (by omega) cp0
          replace cp1 := keepA hb5 (by omega) cp1
          replace lcx : w.heap.size < w5.heap.size := by omega
          replace lcy : w.heap.size + 1 < w5.heap.size := by omega
          replace lcs : w2.heap.size < w5.heap.size := by omega
          replace lcp : w3.heap.size < w5.heap.size := by omega
          obtain ⟨cq0, cq1⟩ := own2 hb5
          have lcq : w4.heap.size < w5.heap.size := g5
          clear hb5 g5 B4
          go_wp2_with fail
          refine (add_no (hi (wn xh xl * n)) (lo (wn xh xl * n)) (hi (wn yh yl * n)) (lo (wn yh yl * n)) _ (lo_bd _).1 (lo_bd _).2 (hi_bd _ P0 hp).1 (hi_bd _ P0 hp).2 (lo_bd _).1 (lo_bd _).2 (hi_bd _ Q0 hq).1 (hi_bd _ Q0 hq).2 (by rw [wn_hi_lo, wn_hi_lo]; omega)).mono ?_
          rintro e w6 ⟨rfl, hb6⟩
          have g6 := growA hb6
          have B6 := stepA B5 hb6
          replace cx0 := keepA hb6 (by omega) cx0
          replace cx1 := keepA hb6 (by omega) cx1
          replace cy0 := keepA hb6 (by omega) cy0
          replace cy1 := keepA hb6 (by omega) cy1
          replace cs0 := keepA hb6 (by omega) cs0
          replace cs1 := keepA hb6 (by omega) cs1
          replace cp0 := keepA hb6 (by omega) cp0
          replace cp1 := keepA hb6 (by omega) cp1
          replace cq0 := keepA hb6 (by omega) cq0
          replace cq1 := keepA hb6 (by omega) cq1
          replace lcx : w.heap.size < w6.heap.size := by omega
          replace lcy : w.heap.size + 1 < w6.heap.size := by omega
          replace lcs : w2.heap.size < w6.heap.size := by omega
          replace lcp : w3.heap.size < w6.heap.size := by omega
          replace lcq : w4.heap.size < w6.heap.size := by omega
          obtain ⟨ct0, ct1⟩ := own2 hb6
          have lct : w5.heap.size < w6.heap.size := g6
          clear hb6 g6 B5
          have de : wn xh xl + wn yh yl - wn xh xl = wn yh yl := by omega
          have DE := Lib.hid de
          clear de
          go_wp2_with fail
          refine (sub_yes (hi (wn xh xl + wn yh yl)) (lo (wn xh xl + wn yh yl)) xh xl _ (lo_bd _).1 (lo_bd _).2 (hi_bd _ S0 hs).1 (hi_bd _ S0 hs).2 xl0 xl1 xh0 xh1 (by rw [wn_hi_lo]; omega)).mono ?_
          rw [wn_hi_lo, DE.out, hi_wn yh yl yl0 yl1, lo_wn yh yl yl0 yl1]
          rintro e w7 ⟨rfl, hb7⟩
          have g7 := growA hb7
          have B7 := stepA B6 hb7
          replace cx0 := keepA hb7 (by omega) cx0
          replace cx1 := keepA hb7 (by omega) cx1
          replace cy0 := keepA hb7 (by omega) cy0
          replace cy1 := keepA hb7 (by omega) cy1
          replace cs0 := keepA hb7 (by omega) cs0
          replace cs1 := keepA hb7 (by omega) cs1
          replace cp0 := keepA hb7 (by omega) cp0
          replace cp1 := keepA hb7 (by omega) cp1
          replace cq0 := keepA hb7 (by omega) cq0
          replace cq1 := keepA hb7 (by omega) cq1
          replace ct0 := keepA hb7 (by omega) ct0
          replace ct1 := keepA hb7 (by omega) ct1
          replace lcx : w.heap.size < w7.heap.size := by omega
          replace lcy : w.heap.size + 1 < w7.heap.size := by omega
          replace lcs : w2.heap.size < w7.heap.size := by omega
          replace lcp : w3.heap.size < w7.heap.size := by omega
          replace lcq : w4.heap.size < w7.heap.size := by omega
          replace lct : w5.heap.size < w7.heap.size := by omega
          obtain ⟨cu0, cu1⟩ := own2 hb7
          have lcu : w6.heap.size < w7.heap.size := g7
          clear hb7 g7 B6
          go_wp2_with fail
          go_ret
          exact ⟨rfl, B7.alloc B7.size _⟩
      · go_enter Try.func8, Try.ntmps8
        go_wp2_with fail
        refine (shown_any _).mono ?_
        rintro e w1 ⟨rfl, hb1⟩
        obtain ⟨cx0, cx1, cy0, cy1, lcx, lcy, B1⟩ := boxes2 hb1
        clear hb1
        go_wp2_with fail
        refine (add_yes xh xl yh yl _ xl0 xl1 xh0 xh1 yl0 yl1 yh0 yh1 hs).mono ?_
        rintro e w2 ⟨rfl, hb2⟩
        have g2 := sizeB hb2
        have B2 := stepC B1 hb2
        replace cx0 := keep hb2 (by omega) cx0
        replace cx1 := keep hb2 (by omega) cx1
        replace cy0 := keep hb2 (by omega) cy0
        replace cy1 := keep hb2 (by omega) cy1
        replace lcx : w.heap.size < w2.heap.size := by omega
        replace lcy : w.heap.size + 1 < w2.heap.size := by omega
        clear hb2 g2 B1
        go_wp2_with fail
        refine (times_yes xh xl n _ xl0 xl1 xh0 xh1 n0 n1 hp).mono ?_
        rintro e w3 ⟨rfl, hb3⟩
        have g3 := growA hb3
        have B3 := stepA B2 hb3
        replace cx0 := keepA hb3 (by omega) cx0
        replace cx1 := keepA hb3 (by omega) cx1
        replace cy0 := keepA hb3 (by omega) cy0
        replace cy1 := keepA hb3 (by omega) cy1
        replace lcx : w.heap.size < w3.heap.size := by omega
        replace lcy : w.heap.size + 1 < w3.heap.size := by omega
        obtain ⟨cs0, cs1⟩ := own2 hb3
        have lcs : w2.heap.size < w3.heap.size := g3
        clear hb3 g3 B2
        go_wp2_with fail
        refine (times_no yh yl n _ yl0 yl1 yh0 yh1 n0 n1 (by omega)).mono ?_
        rintro e w4 ⟨rfl, hb4⟩
        have g4 := growA hb4
        have B4 := stepA B3 hb4
        replace cx0 := keepA hb4 (by omega) cx0
        replace cx1 := keepA hb4 (by omega) cx1
        replace cy0 := keepA hb4 (by omega) cy0
        replace cy1 := keepA hb4 (by omega) cy1
        replace cs0 := keepA hb4 (by omega) cs0
        replace cs1 := keepA hb4 (by omega) cs1
        replace lcx : w.heap.size < w4.heap.size := by omega
        replace lcy : w.heap.size + 1 < w4.heap.size := by omega
        replace lcs : w2.heap.size < w4.heap.size := by omega
        obtain ⟨cp0, cp1⟩ := own2 hb4
        have lcp : w3.heap.size < w4.heap.size := g4
        clear hb4 g4 B3
        go_wp2_with fail
        refine (times_no (hi (wn xh xl + wn yh yl)) (lo (wn xh xl + wn yh yl)) n _ (lo_bd _).1 (lo_bd _).2 (hi_bd _ S0 hs).1 (hi_bd _ S0 hs).2 n0 n1 (by rw [wn_hi_lo, DD.out]; omega)).mono ?_
        rintro e w5 ⟨rfl, hb5⟩
        have g5 := growA hb5
        have B5 := stepA B4 hb5
        replace cx0 := keepA hb5 (by omega) cx0
        replace cx1 := keepA hb5 (by omega) cx1
        replace cy0 := keepA hb5 (by omega) cy0
        replace cy1 := keepA hb5 (by omega) cy1
        replace cs0 := keepA hb5 (by omega) cs0
        replace cs1 := keepA hb5 (by omega) cs1
        replace cp0 := keepA hb5 (by omega) cp0
        replace cp1 := keepA hb5 (by omega) cp1
        replace lcx : w.heap.size < w5.heap.size := by omega
        replace lcy : w.heap.size + 1 < w5.heap.size := by omega
        replace lcs : w2.heap.size < w5.heap.size := by omega
        replace lcp : w3.heap.size < w5.heap.size := by omega
        clear hb5 g5 B4
        go_wp2_with fail
        go_ret
        exact ⟨rfl, B5.alloc B5.size _⟩
    · by_cases hq : wn yh yl * n < top
      · go_enter Try.func8, Try.ntmps8
        go_wp2_with fail
        refine (shown_any _).mono ?_
        rintro e w1 ⟨rfl, hb1⟩
        obtain ⟨cx0, cx1, cy0, cy1, lcx, lcy, B1⟩ := boxes2 hb1
        clear hb1
        go_wp2_with fail
        refine (add_yes xh xl yh yl _ xl0 xl1 xh0 xh1 yl0 yl1 yh0 yh1 hs).mono ?_
        rintro e w2 ⟨rfl, hb2⟩
        have g2 := sizeB hb2
        have B2 := stepC B1 hb2
        replace cx0 := keep hb2 (by omega) cx0
        replace cx1 := keep hb2 (by omega) cx1
        replace cy0 := keep hb2 (by omega) cy0
        replace cy1 := keep hb2 (by omega) cy1
        replace lcx : w.heap.size < w2.heap.size := by omega
        replace lcy : w.heap.size + 1 < w2.heap.size := by omega
        clear hb2 g2 B1
        go_wp2_with fail
        refine (times_no xh xl n _ xl0 xl1 xh0 xh1 n0 n1 (by omega)).mono ?_
        rintro e w3 ⟨rfl, hb3⟩
        have g3 := growA hb3
        have B3 := stepA B2 hb3
        replace cx0 := keepA hb3 (by omega) cx0
        replace cx1 := keepA hb3 (by omega) cx1
        replace cy0 := keepA hb3 (by omega) cy0
        replace cy1 := keepA hb3 (by omega) cy1
        replace lcx : w.heap.size < w3.heap.size := by omega
        replace lcy : w.heap.size + 1 < w3.heap.size := by omega
        obtain ⟨cs0, cs1⟩ := own2 hb3
        have lcs : w2.heap.size < w3.heap.size := g3
        clear hb3 g3 B2
        go_wp2_with fail
        refine (times_yes yh yl n _ yl0 yl1 yh0 yh1 n0 n1 hq).mono ?_
        rintro e w4 ⟨rfl, hb4⟩
        have g4 := growA hb4
        have B4 := stepA B3 hb4
        replace cx0 := keepA hb4 (by omega) cx0
        replace cx1 := keepA hb4 (by omega) cx1
        replace cy0 := keepA hb4 (by omega) cy0
        replace cy1 := keepA hb4 (by omega) cy1
        replace cs0 := keepA hb4 (by omega) cs0
        replace cs1 := keepA hb4 (by omega) cs1
        replace lcx : w.heap.size < w4.heap.size := by omega
        replace lcy : w.heap.size + 1 < w4.heap.size := by omega
        replace lcs : w2.heap.size < w4.heap.size := by omega
        obtain ⟨cp0, cp1⟩ := own2 hb4
        have lcp : w3.heap.size < w4.heap.size := g4
        clear hb4 g4 B3
        go_wp2_with fail
        refine (times_no (hi (wn xh xl + wn yh yl)) (lo (wn xh xl + wn yh yl)) n _ (lo_bd _).1 (lo_bd _).2 (hi_bd _ S0 hs).1 (hi_bd _ S0 hs).2 n0 n1 (by rw [wn_hi_lo, DD.out]; omega)).mono ?_
        rintro e w5 ⟨rfl, hb5⟩
        have g5 := growA hb5
        have B5 := stepA B4 hb5
        replace cx0 := keepA hb5 (by omega) cx0
        replace cx1 := keepA hb5 (by omega) cx1
        replace cy0 := keepA hb5 (by omega) cy0
        replace cy1 := keepA hb5 (by omega) cy1
        replace cs0 := keepA hb5 (by omega) cs0
        replace cs1 := keepA hb5 (by omega) cs1
        replace cp0 := keepA hb5 (by omega) cp0
        replace cp1 := keepA hb5 (by omega) cp1
        replace lcx : w.heap.size < w5.heap.size := by omega
        replace lcy : w.heap.size + 1 < w5.heap.size := by omega
        replace lcs : w2.heap.size < w5.heap.size := by omega
        replace lcp : w3.heap.size < w5.heap.size := by omega
        clear hb5 g5 B4
        go_wp2_with fail
        go_ret
        exact ⟨rfl, B5.alloc B5.size _⟩
      · go_enter Try.func8, Try.ntmps8
        go_wp2_with fail
        refine (shown_any _).mono ?_
        rintro e w1 ⟨rfl, hb1⟩
        obtain ⟨cx0, cx1, cy0, cy1, lcx, lcy, B1⟩ := boxes2 hb1
        clear hb1
        go_wp2_with fail
        refine (add_yes xh xl yh yl _ xl0 xl1 xh0 xh1 yl0 yl1 yh0 yh1 hs).mono ?_
        rintro e w2 ⟨rfl, hb2⟩
        have g2 := sizeB hb2
        have B2 := stepC B1 hb2
        replace cx0 := keep hb2 (by omega) cx0
        replace cx1 := keep hb2 (by omega) cx1
        replace cy0 := keep hb2 (by omega) cy0
        replace cy1 := keep hb2 (by omega) cy1
        replace lcx : w.heap.size < w2.heap.size := by omega
        replace lcy : w.heap.size + 1 < w2.heap.size := by omega
        clear hb2 g2 B1
        go_wp2_with fail
        refine (times_no xh xl n _ xl0 xl1 xh0 xh1 n0 n1 (by omega)).mono ?_
        rintro e w3 ⟨rfl, hb3⟩
        have g3 := growA hb3
        have B3 := stepA B2 hb3
        replace cx0 := keepA hb3 (by omega) cx0
        replace cx1 := keepA hb3 (by omega) cx1
        replace cy0 := keepA hb3 (by omega) cy0
        replace cy1 := keepA hb3 (by omega) cy1
        replace lcx : w.heap.size < w3.heap.size := by omega
        replace lcy : w.heap.size + 1 < w3.heap.size := by omega
        obtain ⟨cs0, cs1⟩ := own2 hb3
        have lcs : w2.heap.size < w3.heap.size := g3
        clear hb3 g3 B2
        go_wp2_with fail
        refine (times_no yh yl n _ yl0 yl1 yh0 yh1 n0 n1 (by omega)).mono ?_
        rintro e w4 ⟨rfl, hb4⟩
        have g4 := growA hb4
        have B4 := stepA B3 hb4
        replace cx0 := keepA hb4 (by omega) cx0
        replace cx1 := keepA hb4 (by omega) cx1
        replace cy0 := keepA hb4 (by omega) cy0
        replace cy1 := keepA hb4 (by omega) cy1
        replace cs0 := keepA hb4 (by omega) cs0
        replace cs1 := keepA hb4 (by omega) cs1
        replace lcx : w.heap.size < w4.heap.size := by omega
        replace lcy : w.heap.size + 1 < w4.heap.size := by omega
        replace lcs : w2.heap.size < w4.heap.size := by omega
        obtain ⟨cp0, cp1⟩ := own2 hb4
        have lcp : w3.heap.size < w4.heap.size := g4
        clear hb4 g4 B3
        go_wp2_with fail
        refine (times_no (hi (wn xh xl + wn yh yl)) (lo (wn xh xl + wn yh yl)) n _ (lo_bd _).1 (lo_bd _).2 (hi_bd _ S0 hs).1 (hi_bd _ S0 hs).2 n0 n1 (by rw [wn_hi_lo, DD.out]; omega)).mono ?_
        rintro e w5 ⟨rfl, hb5⟩
        have g5 := growA hb5
        have B5 := stepA B4 hb5
        replace cx0 := keepA hb5 (by omega) cx0
        replace cx1 := keepA hb5 (by omega) cx1
        replace cy0 := keepA hb5 (by omega) cy0
        replace cy1 := keepA hb5 (by omega) cy1
        replace cs0 := keepA hb5 (by omega) cs0
        replace cs1 := keepA hb5 (by omega) cs1
        replace cp0 := keepA hb5 (by omega) cp0
        replace cp1 := keepA hb5 (by omega) cp1
        replace lcx : w.heap.size < w5.heap.size := by omega
        replace lcy : w.heap.size + 1 < w5.heap.size := by omega
        replace lcs : w2.heap.size < w5.heap.size := by omega
        replace lcp : w3.heap.size < w5.heap.size := by omega
        clear hb5 g5 B4
        go_wp2_with fail
        go_ret
        exact ⟨rfl, B5.alloc B5.size _⟩
  · go_enter Try.func8, Try.ntmps8
    go_wp2_with fail
    refine (shown_any _).mono ?_
    rintro e w1 ⟨rfl, hb1⟩
    obtain ⟨cx0, cx1, cy0, cy1, lcx, lcy, B1⟩ := boxes2 hb1
    clear hb1
    go_wp2_with fail
    refine (add_no xh xl yh yl _ xl0 xl1 xh0 xh1 yl0 yl1 yh0 yh1 (by omega)).mono ?_
    rintro e w2 ⟨rfl, hb2⟩
    have g2 := sizeB hb2
    have B2 := stepC B1 hb2
    replace cx0 := keep hb2 (by omega) cx0
    replace cx1 := keep hb2 (by omega) cx1
    replace cy0 := keep hb2 (by omega) cy0
    replace cy1 := keep hb2 (by omega) cy1
    replace lcx : w.heap.size < w2.heap.size := by omega
    replace lcy : w.heap.size + 1 < w2.heap.size := by omega
    clear hb2 g2 B1
    go_wp2_with fail
    refine (times_any xh xl n _ xl0 xl1 xh0 xh1 n0 n1).mono ?_
    rintro e w3 ⟨rfl, hb3⟩
    have g3 := growA hb3
    have B3 := stepA B2 hb3
    replace cx0 := keepA hb3 (by omega) cx0
    replace cx1 := keepA hb3 (by omega) cx1
    replace cy0 := keepA hb3 (by omega) cy0
    replace cy1 := keepA hb3 (by omega) cy1
    replace lcx : w.heap.size < w3.heap.size := by omega
    replace lcy : w.heap.size + 1 < w3.heap.size := by omega
    obtain ⟨cs0, cs1⟩ := own2 hb3
    have lcs : w2.heap.size < w3.heap.size := g3
    clear hb3 g3 B2
    go_wp2_with fail
    refine (times_any yh yl n _ yl0 yl1 yh0 yh1 n0 n1).mono ?_
    rintro e w4 ⟨rfl, hb4⟩
    have g4 := growA hb4
    have B4 := stepA B3 hb4
    replace cx0 := keepA hb4 (by omega) cx0
    replace cx1 := keepA hb4 (by omega) cx1
    replace cy0 := keepA hb4 (by omega) cy0
    replace cy1 := keepA hb4 (by omega) cy1
    replace cs0 := keepA hb4 (by omega) cs0
    replace cs1 := keepA hb4 (by omega) cs1
    replace lcx : w.heap.size < w4.heap.size := by omega
    replace lcy : w.heap.size + 1 < w4.heap.size := by omega
    replace lcs : w2.heap.size < w4.heap.size := by omega
    clear hb4 g4 B3
    go_wp2_with fail
    go_ret
    exact ⟨rfl, B4.alloc B4.size _⟩
end Go.Proofs.Ytcpifgoglcoeeaa
