/- WideOrders: the walk of the statement's Go text, whichever way the numbers lie to each other. -/
import Derived.Test.YtcpifgoglcoeeaaOrders
namespace Go.Proofs.Ytcpifgoglcoeeaa
open Go.RowKit

theorem orders_walk (xh xl yh yl zh zl n : Int) (w : World) (xh0 : 0 ≤ xh) (xh1 : xh < 18446744073709551616) (xl0 : 0 ≤ xl) (xl1 : xl < 18446744073709551616)
    (yh0 : 0 ≤ yh) (yh1 : yh < 18446744073709551616) (yl0 : 0 ≤ yl) (yl1 : yl < 18446744073709551616) (zh0 : 0 ≤ zh) (zh1 : zh < 18446744073709551616) (zl0 : 0 ≤ zl) (zl1 : zl < 18446744073709551616) (n0 : 0 ≤ n) (n1 : n < 18446744073709551616) :
    Calls Try.prog 6 #[.agg #[.int .u64 xh, .int .u64 xl, .int .u64 yh, .int .u64 yl, .int .u64 zh, .int .u64 zl, .int .u64 n]] w fun e w' => e = .returned (.bool true) ∧ Below w.heap.size w w' := by
  by_cases h1 : xh = yh
  · subst h1
    by_cases h2 : xl = yl
    · subst h2
      exact orders_eq xh xl zh zl n w xh0 xh1 xl0 xl1 zh0 zh1 zl0 zl1 n0 n1
    · have hb : (xl == yl) = false := beq_eq_false_iff_ne.2 h2
      have hl := (cmp_lo xh xl yl).1
      have hg := (cmp_lo xh yl xl).1
      by_cases h3 : xl < yl
      · exact orders_lt2 xh xl yl zh zl n w xh0 xh1 xl0 xl1 yl0 yl1 zh0 zh1 zl0 zl1 n0 n1 hb (hl.2 h3)
      · exact orders_gt2 xh xl yl zh zl n w xh0 xh1 xl0 xl1 yl0 yl1 zh0 zh1 zl0 zl1 n0 n1 hb (hg.2 (by omega))
  · have hb : (xh == yh) = false := beq_eq_false_iff_ne.2 h1
    by_cases h3 : xh < yh
    · exact orders_lt1 xh xl yh yl zh zl n w xh0 xh1 xl0 xl1 yh0 yh1 yl0 yl1 zh0 zh1 zl0 zl1 n0 n1 hb (cmp_hi _ _ _ _ xl0 xl1 yl0 yl1 h3)
    · exact orders_gt1 xh xl yh yl zh zl n w xh0 xh1 xl0 xl1 yh0 yh1 yl0 yl1 zh0 zh1 zl0 zl1 n0 n1 hb (cmp_hi _ _ _ _ yl0 yl1 xl0 xl1 (by omega))
end Go.Proofs.Ytcpifgoglcoeeaa
