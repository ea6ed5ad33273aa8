/- The names of the seven ways, and the way of a name. No program in this text. -/
import Derived.Test.YtjijgcgbnmobfaaGreatDoorGWide
namespace Go.Proofs.YtjijgcgbnmobfaaGreatDoor
open Go.RowKit
set_option linter.unusedVariables false

/-- The ways' names. -/
def nm (k : Int) : ByteArray := if k = 0 then ⟨#[51, 48, 47, 51, 54, 48]⟩ else if k = 1 then ⟨#[51, 48, 101, 47, 51, 54, 48]⟩ else if k = 2 then ⟨#[51, 48, 101, 47, 51, 54, 48, 105, 115, 100, 97]⟩ else if k = 3 then ⟨#[97, 99, 116, 47, 51, 54, 48]⟩ else if k = 4 then ⟨#[97, 99, 116, 47, 51, 54, 53, 102]⟩ else if k = 5 then ⟨#[97, 99, 116, 47, 97, 99, 116]⟩ else if k = 6 then ⟨#[97, 99, 116, 47, 97, 99, 116, 105, 99, 109, 97]⟩ else ⟨#[]⟩
/-- The way of a name, and its code. -/
def kd (s : ByteArray) : Int × Int := if ((nm 0).toList == s.toList) = true then (0, 0) else if ((nm 1).toList == s.toList) = true then (1, 0) else if ((nm 2).toList == s.toList) = true then (2, 0) else if ((nm 3).toList == s.toList) = true then (3, 0) else if ((nm 4).toList == s.toList) = true then (4, 0) else if ((nm 5).toList == s.toList) = true then (5, 0) else if ((nm 6).toList == s.toList) = true then (6, 0) else (0, 10)
theorem nm_out (k : Int) (h : k < 0 ∨ 6 < k) : nm k = ⟨#[]⟩ := by
  unfold nm
  rw [if_neg (by omega), if_neg (by omega), if_neg (by omega), if_neg (by omega), if_neg (by omega), if_neg (by omega), if_neg (by omega)]
theorem of7 (k : Int) (h : 0 ≤ k ∧ k ≤ 6) : k = 0 ∨ k = 1 ∨ k = 2 ∨ k = 3 ∨ k = 4 ∨ k = 5 ∨ k = 6 := by omega
end Go.Proofs.YtjijgcgbnmobfaaGreatDoor
