/- CalUnites: the walk. -/
import Derived.Test.YtkadodkdbopgnaaDoorCaUniY
import Derived.Test.YtkadodkdbopgnaaDoorCaUniN
namespace Go.Proofs.YtkadodkdbopgnaaDoor
open Go.RowKit
set_option linter.unusedVariables false
set_option linter.unusedSimpArgs false


theorem caunites_walk (K : CalWay) (a : Ca) (aRa : Option Addr) (cRa : Nat) (aDa : Option Addr) (cDa : Nat) (b : Ca) (aRb : Option Addr) (cRb : Nat) (aDb : Option Addr) (cDb : Nat) (n m : Int) (w : World) (hL : FactsV w) (hCa : CalAt w a aRa cRa aDa cDa) (hCb : CalAt w b aRb cRb aDb cDb) (bn : -9223372036854775808 ≤ n ∧ n < 9223372036854775808) (bm : -9223372036854775808 ≤ m ∧ m < 9223372036854775808) :
    Calls Tryd.prog 4 #[.agg #[.bool (a.o 0), .bool (a.o 1), .bool (a.o 2), .bool (a.o 3), .bool (a.o 4), .bool (a.o 5), .bool (a.o 6), .slice aRa a.nr cRa, .slice aDa a.nd cDa, .bool (b.o 0), .bool (b.o 1), .bool (b.o 2), .bool (b.o 3), .bool (b.o 4), .bool (b.o 5), .bool (b.o 6), .slice aRb b.nr cRb, .slice aDb b.nd cDb, .int .i64 n, .int .i64 m]] w fun e w' => e = .returned (.bool true) ∧ Below w.heap.size w w' := by
  by_cases fa : a.Few
  · by_cases fb : b.Few
    · by_cases ma : a.May
      · by_cases mb : b.May
        · obtain ⟨d, hd⟩ : ∃ d, IntKind.i64.wrap (m - n) = d := ⟨_, rfl⟩
          obtain ⟨q, h, hm⟩ := many_is a n m
          by_cases q1 : m > n
          · by_cases q2 : d > 100
            · by_cases q3 : d ≤ 4000
              · exact caunites_5 K a aRa cRa aDa cDa b aRb cRb aDb cDb n m d w hL hCa hCb (decide_eq_true fa) (decide_eq_true fb) fa.small fb.small ma mb (decide_eq_true q1) hd (decide_eq_true q2) (decide_eq_true q3)
              · by_cases mx : (a.un b).May
                · exact caunites_Y2 K a aRa cRa aDa cDa b aRb cRb aDb cDb n m d q h w hL hCa hCb (decide_eq_true fa) (decide_eq_true fb) fa.small fb.small fa fb ma mb (decide_eq_true q1) hd (decide_eq_true q2) (decide_eq_false q3) hm mx
                · exact caunites_N2 K a aRa cRa aDa cDa b aRb cRb aDb cDb n m d q h w hL hCa hCb (decide_eq_true fa) (decide_eq_true fb) fa.small fb.small fa fb ma mb (decide_eq_true q1) hd (decide_eq_true q2) (decide_eq_false q3) hm mx
            · by_cases mx : (a.un b).May
              · exact caunites_Y1 K a aRa cRa aDa cDa b aRb cRb aDb cDb n m d q h w hL hCa hCb (decide_eq_true fa) (decide_eq_true fb) fa.small fb.small fa fb ma mb (decide_eq_true q1) hd (decide_eq_false q2) hm mx
              · exact caunites_N1 K a aRa cRa aDa cDa b aRb cRb aDb cDb n m d q h w hL hCa hCb (decide_eq_true fa) (decide_eq_true fb) fa.small fb.small fa fb ma mb (decide_eq_true q1) hd (decide_eq_false q2) hm mx
          · by_cases mx : (a.un b).May
            · exact caunites_Y0 K a aRa cRa aDa cDa b aRb cRb aDb cDb n m d q h w hL hCa hCb (decide_eq_true fa) (decide_eq_true fb) fa.small fb.small fa fb ma mb (decide_eq_false q1) hm mx
            · exact caunites_N0 K a aRa cRa aDa cDa b aRb cRb aDb cDb n m d q h w hL hCa hCb (decide_eq_true fa) (decide_eq_true fb) fa.small fb.small fa fb ma mb (decide_eq_false q1) hm mx
        · exact caunites_4 K a aRa cRa aDa cDa b aRb cRb aDb cDb n m w hL hCa hCb (decide_eq_true fa) (decide_eq_true fb) fa.small fb.small ma mb
      · exact caunites_3 K a aRa cRa aDa cDa b aRb cRb aDb cDb n m w hL hCa hCb (decide_eq_true fa) (decide_eq_true fb) fa.small fb.small ma
    · exact caunites_2 K a aRa cRa aDa cDa b aRb cRb aDb cDb n m w hL hCa hCb (decide_eq_true fa) (decide_eq_false fb)
  · exact caunites_1 K a aRa cRa aDa cDa b aRb cRb aDb cDb n m w hL hCa hCb (decide_eq_false fa)
end Go.Proofs.YtkadodkdbopgnaaDoor
