/- CalRules: the walk. -/
import Derived.Test.YtkadodkdbopgnaaDoorCaRuleT
import Derived.Test.YtkadodkdbopgnaaDoorCaRuleF
import Derived.Test.YtkadodkdbopgnaaDoorCaRuleN
namespace Go.Proofs.YtkadodkdbopgnaaDoor
open Go.RowKit
set_option linter.unusedVariables false
set_option linter.unusedSimpArgs false


theorem carules_walk (K : CalWay) (c : Ca) (aR : Option Addr) (cR : Nat) (aD : Option Addr) (cD : Nat) (rk rm rd rq ro rs rf rt z n : Int) (w : World) (hL : FactsV w) (hC : CalAt w c aR cR aD cD) (bz : 0 ≤ z ∧ z < 256) (bn : -9223372036854775808 ≤ n ∧ n < 9223372036854775808) :
    Calls Tryd.prog 8 #[.agg #[.bool (c.o 0), .bool (c.o 1), .bool (c.o 2), .bool (c.o 3), .bool (c.o 4), .bool (c.o 5), .bool (c.o 6), .slice aR c.nr cR, .slice aD c.nd cD, .int .i64 rk, .int .i64 rm, .int .i64 rd, .int .i64 rq, .int .i64 ro, .int .i64 rs, .int .i64 rf, .int .i64 rt, .int .u8 z, .int .i64 n]] w fun e w' => e = .returned (.bool true) ∧ Below w.heap.size w w' := by
  obtain ⟨r, hr⟩ : ∃ r : Ru, r = ⟨rk, rm, rd, rq, ro, rs, rf, rt⟩ := ⟨_, rfl⟩
  rw [show rk = r.k by rw [hr], show rm = r.m by rw [hr], show rd = r.d by rw [hr], show rq = r.q by rw [hr], show ro = r.o by rw [hr], show rs = r.s by rw [hr], show rf = r.f by rw [hr], show rt = r.t by rw [hr]]
  clear hr
  by_cases hf : c.Few
  · by_cases hm : c.May
    · by_cases mr : r.May
      · by_cases hn : 1 ≤ n ∧ n ≤ 3652059
        · obtain ⟨v, hv, v7⟩ := wk_nat n
          have k7 : z % 7 = 0 ∨ z % 7 = 1 ∨ z % 7 = 2 ∨ z % 7 = 3 ∨ z % 7 = 4 ∨ z % 7 = 5 ∨ z % 7 = 6 := by omega
          have mp := plus_may hm (by have := hf.1; omega) mr
          obtain ⟨u0, hu0⟩ := bool_of (c.offed 0).May
          obtain ⟨u1, hu1⟩ := bool_of (c.offed 1).May
          obtain ⟨u2, hu2⟩ := bool_of (c.offed 2).May
          obtain ⟨u3, hu3⟩ := bool_of (c.offed 3).May
          obtain ⟨u4, hu4⟩ := bool_of (c.offed 4).May
          obtain ⟨u5, hu5⟩ := bool_of (c.offed 5).May
          obtain ⟨u6, hu6⟩ := bool_of (c.offed 6).May
          by_cases hp : c.Is n
          · have W : ∀ j : Nat, (((v : Int) != j) = true ↔ (c.offed j).Is n) := fun j => by
              rw [offed_is c j v n hv]
              constructor
              · intro g; exact ⟨hp, fun e => by subst e; simp at g⟩
              · intro g; have := g.2; simp; omega
            by_cases hx : r.Is n
            · exact carules_T K c aR cR aD cD r z n w hL hC bz (decide_eq_true hf) hf.1 hf.small hm (Ru.mb_iff.2 mr) mr mp (decide_eq_true hn) v hv k7 hp (fun g => ((plus_is c r n).1 g).2 hx) hx u0 u1 u2 u3 u4 u5 u6 hu0 hu1 hu2 hu3 hu4 hu5 hu6 (W 0) (W 1) (W 2) (W 3) (W 4) (W 5) (W 6)
            · exact carules_F K c aR cR aD cD r z n w hL hC bz (decide_eq_true hf) hf.1 hf.small hm (Ru.mb_iff.2 mr) mr mp (decide_eq_true hn) v hv k7 hp ((plus_is c r n).2 ⟨hp, hx⟩) hx u0 u1 u2 u3 u4 u5 u6 hu0 hu1 hu2 hu3 hu4 hu5 hu6 (W 0) (W 1) (W 2) (W 3) (W 4) (W 5) (W 6)
          · exact carules_N K c aR cR aD cD r z n w hL hC bz (decide_eq_true hf) hf.1 hf.small hm (Ru.mb_iff.2 mr) mr mp (decide_eq_true hn) v hv k7 hp (fun g => hp ((plus_is c r n).1 g).1) u0 u1 u2 u3 u4 u5 u6 hu0 hu1 hu2 hu3 hu4 hu5 hu6 (fun g => hp ((offed_is c 0 v n hv).1 g).1) (fun g => hp ((offed_is c 1 v n hv).1 g).1) (fun g => hp ((offed_is c 2 v n hv).1 g).1) (fun g => hp ((offed_is c 3 v n hv).1 g).1) (fun g => hp ((offed_is c 4 v n hv).1 g).1) (fun g => hp ((offed_is c 5 v n hv).1 g).1) (fun g => hp ((offed_is c 6 v n hv).1 g).1)
        · exact carules_4 K c aR cR aD cD r z n w hL hC bz (decide_eq_true hf) hf.small hm (Ru.mb_iff.2 mr) (decide_eq_false hn)
      · exact carules_3 K c aR cR aD cD r z n w hL hC bz (decide_eq_true hf) hf.small hm (by rw [← Bool.not_eq_true]; exact fun g => mr (Ru.mb_iff.1 g))
    · exact carules_2 K c aR cR aD cD r z n w hL hC bz (decide_eq_true hf) hf.small hm
  · exact carules_1 K c aR cR aD cD r z n w hL hC bz (decide_eq_false hf)
end Go.Proofs.YtkadodkdbopgnaaDoor
