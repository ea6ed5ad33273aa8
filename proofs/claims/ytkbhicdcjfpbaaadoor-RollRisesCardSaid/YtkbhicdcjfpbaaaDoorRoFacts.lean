/- What is known of the tables while the walks of layer 14 go on: the months' lengths, the ways' names; plain calendars; small laws of memory. -/
import Derived.Test.YtkbhicdcjfpbaaaDoorRoNum
import Derived.Test.YtkbhicdcjfpbaaaDoorCaUn
import Derived.Test.YtkbhicdcjfpbaaaDoorCaRefB
import Derived.Test.YtkbhicdcjfpbaaaDoorCaBox
import Derived.Test.YtkbhicdcjfpbaaaDoorRuWays
namespace Go.Proofs.YtkbhicdcjfpbaaaDoor
open Go.RowKit
set_option linter.unusedVariables false
set_option linter.unusedSimpArgs false

/-- The ways' names, as the program lays them. -/
def Names (w : World) : Prop := ∀ i : Nat, i < 5 → w.cell? ⟨0, i, none⟩ = some (.string (rn i))
/-- What stands in the memory, whatever is made: the table of the months' lengths, the ways' names. -/
def FactsW (w : World) : Prop := Lens w ∧ Names w
theorem FactsW.below {W W' : World} (h : FactsW W) (hb : Below W.heap.size W W') : FactsW W' := ⟨Lens.below h.1 hb, fun i hi => keep hb (cell_lt (h.2 i hi)) (h.2 i hi)⟩
def factsWF : Fact := .that FactsW (fun _ _ hb h => h.below hb)
theorem Held.factsW {w W : World} {fs : List Fact} (h : Held w fs W) (hm : factsWF ∈ fs) : FactsW W := h.all _ hm
theorem Held.factsWu {w W : World} {fs : List Fact} (h : Held w fs W) (hm : factsWF ∈ fs) : FactsU W := (h.factsW hm).1
theorem Held.factsWl {w W : World} {fs : List Fact} (h : Held w fs W) (hm : factsWF ∈ fs) : Lens W := (h.factsW hm).1
theorem cday_is (n : Int) (b : Bool) (w : World) (h : decide (1 ≤ n ∧ n ≤ 3652059) = b) : Calls Tryd.prog 47 #[.int .i64 n] w fun e w' => e = .returned (.bool b) ∧ w = w' := by
  have HB := Lib.hid h
  clear h
  go_enter Tryd.func47, Tryd.ntmps47
  go_wp2
  all_goals (go_ret; refine ⟨retB ?_, rfl⟩; rw [← HB.out]; rw [Bool.eq_iff_iff]; (try simp only [ge_iff_le, Bool.and_eq_true, decide_eq_true_eq, Bool.false_eq_true, false_iff, true_iff]); omega)
theorem Held.calR {w W : World} {fs : List Fact} {c : Ca} {aR : Option Addr} {cR : Nat} {aD : Option Addr} {cD : Nat} (h : Held w fs W) (hm : calF c aR cR aD cD ∈ fs) : RulesAt W aR c.R c.nr cR := (h.cal hm).1
theorem Held.calD {w W : World} {fs : List Fact} {c : Ca} {aR : Option Addr} {cR : Nat} {aD : Option Addr} {cD : Nat} (h : Held w fs W) (hm : calF c aR cR aD cD ∈ fs) : DaysAt W aD c.X c.nd cD := (h.cal hm).2
def rulesF (ao : Option Addr) (R : Nat → Ru) (n cap : Nat) : Fact := .that (fun W => RulesAt W ao R n cap) (fun _ _ hb h => h.below hb)
theorem Held.rules {w W : World} {fs : List Fact} {ao : Option Addr} {R : Nat → Ru} {n cap : Nat} (h : Held w fs W) (hm : rulesF ao R n cap ∈ fs) : RulesAt W ao R n cap := h.all _ hm
def Ca.Few (c : Ca) : Prop := c.nr ≤ 12 ∧ c.nd ≤ 60
theorem Ca.Few.small {c : Ca} (h : c.Few) : c.Small := ⟨Nat.le_trans h.1 (by decide), Nat.le_trans h.2 (by decide)⟩
theorem cal_none (W : World) (o : Nat → Bool) (R : Nat → Ru) (X : Nat → Int) : CalAt W ⟨o, 0, R, 0, X⟩ none 0 none 0 := ⟨⟨Nat.le_refl _, fun k => absurd k (Nat.lt_irrefl _)⟩, Nat.le_refl _, fun k => absurd k (Nat.lt_irrefl _)⟩
/-- A calendar without rules, and with no day or one. -/
def wcal (o : Nat → Bool) : Ca := ⟨o, 0, fun _ => ⟨0, 0, 0, 0, 0, 0, 0, 0⟩, 0, fun _ => 0⟩
theorem wcal_few (o : Nat → Bool) : (wcal o).Few := ⟨Nat.zero_le _, Nat.zero_le _⟩
theorem wcal_may (o : Nat → Bool) : (wcal o).May ↔ ∃ i, i < 7 ∧ o i = false :=
  ⟨fun h => h.1, fun h => ⟨h, Nat.zero_le _, Nat.zero_le _, fun j hj => absurd hj (Nat.not_lt_zero j), fun j hj => absurd hj (Nat.not_lt_zero j), fun j hj => absurd hj (Nat.not_lt_zero _)⟩⟩
theorem wcal_is (o : Nat → Bool) (n : Int) : (wcal o).Is n ↔ dy n ∧ o (wk n).toNat = false :=
  ⟨fun h => ⟨h.1, h.2.1⟩, fun h => ⟨h.1, h.2, fun j hj => absurd hj (Nat.not_lt_zero j), fun j hj => absurd hj (Nat.not_lt_zero j)⟩⟩
def oc : Nat → Bool := fun i => decide (5 ≤ i)
def oz : Nat → Bool := fun _ => false
theorem oc_may : (wcal oc).May := (wcal_may oc).2 ⟨0, by decide, by decide⟩
end Go.Proofs.YtkbhicdcjfpbaaaDoor
