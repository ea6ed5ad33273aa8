/- CalOrder: the walk. -/
import Derived.Test.YtkadodkdbopgnaaDoorCaOrdT
import Derived.Test.YtkadodkdbopgnaaDoorCaOrdF
namespace Go.Proofs.YtkadodkdbopgnaaDoor
open Go.RowKit
set_option linter.unusedVariables false
set_option linter.unusedSimpArgs false


theorem caorder_walk (K : CalWay) (c : Ca) (aR : Option Addr) (cR : Nat) (aD : Option Addr) (cD : Nat) (i j n : Int) (w : World) (hL : FactsV w) (hC : CalAt w c aR cR aD cD) (bi : 0 ≤ i ∧ i < 256) (bj : 0 ≤ j ∧ j < 256) (bn : -9223372036854775808 ≤ n ∧ n < 9223372036854775808) :
    Calls Tryd.prog 9 #[.agg #[.bool (c.o 0), .bool (c.o 1), .bool (c.o 2), .bool (c.o 3), .bool (c.o 4), .bool (c.o 5), .bool (c.o 6), .slice aR c.nr cR, .slice aD c.nd cD, .int .u8 i, .int .u8 j, .int .i64 n]] w fun e w' => e = .returned (.bool true) ∧ Below w.heap.size w w' := by
  by_cases hf : c.Few
  · by_cases hm : c.May
    · by_cases h0 : c.nr < 1
      · exact caorder_3 K c aR cR aD cD i j n w hL hC bi bj (decide_eq_true hf) hf.small hm h0
      · obtain ⟨bR, oR, e, hR⟩ := hC.1.2 (by omega)
        subst e
        have q1 := Int.emod_nonneg i (show (c.nr : Int) ≠ 0 by omega)
        have q2 := Int.emod_lt_of_pos i (show (0 : Int) < c.nr by omega)
        have q3 := Int.emod_nonneg j (show (c.nr : Int) ≠ 0 by omega)
        have q4 := Int.emod_lt_of_pos j (show (0 : Int) < c.nr by omega)
        obtain ⟨x, hx⟩ := Int.eq_ofNat_of_zero_le q1
        obtain ⟨y, hy⟩ := Int.eq_ofNat_of_zero_le q3
        have xl : x < c.nr := by omega
        have yl : y < c.nr := by omega
        have ms := swap_may xl yl hm
        have mr : (c.R x).May := hm.2.2.2.1 x xl
        have mp := plus_may hm (by have := hf.1; omega) mr
        have zp : (c.plus (c.R x)).Small := ⟨by show c.nr + 1 ≤ 200; have := hf.1; omega, by show c.nd ≤ 2000; have := hf.2; omega⟩
        by_cases hp : c.Is n
        · exact caorder_t K c bR oR cR aD cD i j n w hL hC bi bj (decide_eq_true hf) hf.1 hf.small hm (by omega) hR x y xl yl hx hy hp ms ((swap_is c xl yl n).2 hp) mp zp ((plus_is c (c.R x) n).2 ⟨hp, hp.2.2.2 x xl⟩)
        · exact caorder_f K c bR oR cR aD cD i j n w hL hC bi bj (decide_eq_true hf) hf.1 hf.small hm (by omega) hR x y xl yl hx hy hp ms (fun g => hp ((swap_is c xl yl n).1 g)) mp zp (fun g => hp ((plus_is c (c.R x) n).1 g).1)
    · exact caorder_2 K c aR cR aD cD i j n w hL hC bi bj (decide_eq_true hf) hf.small hm
  · exact caorder_1 K c aR cR aD cD i j n w hL hC bi bj (decide_eq_false hf)
end Go.Proofs.YtkadodkdbopgnaaDoor
