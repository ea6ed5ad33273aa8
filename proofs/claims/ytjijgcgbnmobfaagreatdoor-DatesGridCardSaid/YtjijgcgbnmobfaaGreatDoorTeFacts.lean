/- What is known while the walks of layer 15 go on: the months' lengths, both tables of names, the errors. -/
import Derived.Test.YtjijgcgbnmobfaaGreatDoorTeNum
import Derived.Test.YtjijgcgbnmobfaaGreatDoorTeBox
import Derived.Test.YtjijgcgbnmobfaaGreatDoorTeErr
import Derived.Test.YtjijgcgbnmobfaaGreatDoorCShown
namespace Go.Proofs.YtjijgcgbnmobfaaGreatDoor
open Go.RowKit
set_option linter.unusedVariables false
set_option linter.unusedSimpArgs false

/-- The ways' names, and the way of a name with its code. -/
def rn (k : Int) : ByteArray := if k = 0 then ⟨#[110, 111, 110, 101]⟩ else if k = 1 then ⟨#[102, 111, 108, 108, 111, 119, 105, 110, 103]⟩ else if k = 2 then ⟨#[109, 111, 100, 102, 111, 108, 108, 111, 119, 105, 110, 103]⟩ else if k = 3 then ⟨#[112, 114, 101, 99, 101, 100, 105, 110, 103]⟩ else if k = 4 then ⟨#[109, 111, 100, 112, 114, 101, 99, 101, 100, 105, 110, 103]⟩ else ⟨#[]⟩
theorem rn_out (k : Int) (h : k < 0 ∨ 4 < k) : rn k = ⟨#[]⟩ := by
  unfold rn
  rw [if_neg (by omega), if_neg (by omega), if_neg (by omega), if_neg (by omega), if_neg (by omega)]
theorem rn_0 : rn 0 = ⟨#[110, 111, 110, 101]⟩ := by simp [rn]
theorem rn_1 : rn 1 = ⟨#[102, 111, 108, 108, 111, 119, 105, 110, 103]⟩ := by simp [rn]
theorem rn_2 : rn 2 = ⟨#[109, 111, 100, 102, 111, 108, 108, 111, 119, 105, 110, 103]⟩ := by simp [rn]
theorem rn_3 : rn 3 = ⟨#[112, 114, 101, 99, 101, 100, 105, 110, 103]⟩ := by simp [rn]
theorem rn_4 : rn 4 = ⟨#[109, 111, 100, 112, 114, 101, 99, 101, 100, 105, 110, 103]⟩ := by simp [rn]
theorem of5 (k : Int) (h : 0 ≤ k ∧ k ≤ 4) : k = 0 ∨ k = 1 ∨ k = 2 ∨ k = 3 ∨ k = 4 := by omega
theorem rn_none (k : Int) : (rn k).toList.isEmpty = decide (k < 0 ∨ 4 < k) := by
  by_cases h : k < 0 ∨ 4 < k
  · rw [rn_out k h, decide_eq_true h]; decide +kernel
  · rw [decide_eq_false h]
    rcases of5 k (by omega) with rfl | rfl | rfl | rfl | rfl <;> decide +kernel
/-- The names of ways to roll, and of kinds of loans, as the program lays them. -/
def NamesR (w : World) : Prop := ∀ i : Nat, i < 5 → w.cell? ⟨6, i, none⟩ = some (.string (rn i))
def NamesT (w : World) : Prop := ∀ i : Nat, i < 3 → w.cell? ⟨5, i, none⟩ = some (.string (tn i))
/-- What stands in the memory, whatever is made. -/
def FactsT (w : World) : Prop := Lens w ∧ NamesR w ∧ NamesT w ∧ ErrsT w
theorem FactsT.below {W W' : World} (h : FactsT W) (hb : Below W.heap.size W W') : FactsT W' :=
  ⟨Lens.below h.1 hb, fun i hi => keep hb (cell_lt (h.2.1 i hi)) (h.2.1 i hi), fun i hi => keep hb (cell_lt (h.2.2.1 i hi)) (h.2.2.1 i hi), h.2.2.2.below hb⟩
def factsTF : Fact := .that FactsT (fun _ _ hb h => h.below hb)
theorem Held.factsT {w W : World} {fs : List Fact} (h : Held w fs W) (hm : factsTF ∈ fs) : FactsT W := h.all _ hm
theorem Held.lensT {w W : World} {fs : List Fact} (h : Held w fs W) (hm : factsTF ∈ fs) : Lens W := (h.factsT hm).1
end Go.Proofs.YtjijgcgbnmobfaaGreatDoor
