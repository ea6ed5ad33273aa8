/- Package months: the month so many on; a day cut to its month's end, handed to what makes it. -/
import Derived.Test.YtkmchbllnfoccaaGreatDoorMoNum
import Derived.Test.YtkmchbllnfoccaaGreatDoorCShown
namespace Go.Proofs.YtkmchbllnfoccaaGreatDoor
open Go.RowKit
set_option linter.unusedVariables false

/-- What is handed to the cut by Last: is the day made the day held? -/
theorem same_any (y m d D : Int) (B : Nat) (w : World) (b : Bool) (h0 : w.cell? ⟨B, 0, none⟩ = some (.int .i64 y)) (h1 : w.cell? ⟨B, 1, none⟩ = some (.int .i64 m)) (h2 : w.cell? ⟨B, 2, none⟩ = some (.int .i64 d))
    (hb : decide (d = D) = b) :
    Calls Tryz.prog 123 #[.agg #[.int .i64 y, .int .i64 m, .int .i64 D], .pointer (some ⟨B, 0, none⟩)] w fun e w' => e = .returned (.tuple #[.bool b, .int .i64 0]) ∧ Below w.heap.size w w' := by
  have A : ∀ w : World, Below w.heap.size w (w.alloc (.cells #[.int .i64 y, .int .i64 m, .int .i64 D] 78)) := fun w => (Below.refl _ _).alloc (Nat.le_refl _) _
  have l0 := cell_lt h0
  by_cases hd : d = D
  · subst hd
    obtain rfl : true = b := by rw [← hb]; simp
    clear hb
    go_enter Tryz.func123, Tryz.ntmps123
    go_wp2
    go_ret2
    exact ⟨rfl, A _⟩
  · obtain rfl : false = b := by rw [← hb]; simp [hd]
    clear hb
    go_enter Tryz.func123, Tryz.ntmps123
    go_wp2
    go_ret2
    exact ⟨rfl, A _⟩

set_option maxHeartbeats 1000000 in
theorem cutb_any (y m d : Int) (B : Nat) (b : Bool) (w : World) (hL : Lens w) (h0 : w.cell? ⟨B, 0, none⟩ = some (.int .i64 y)) (h1 : w.cell? ⟨B, 1, none⟩ = some (.int .i64 m)) (h2 : w.cell? ⟨B, 2, none⟩ = some (.int .i64 d))
    (hb : decide (d = ln y m) = b) :
    Calls Tryz.prog 122 #[.int .i64 y, .int .i64 m, .int .i64 31, .func (.func 123) #[] #[.pointer (some ⟨B, 0, none⟩)]] w fun e' w' => e' = .returned (.tuple #[.bool b, .int .i64 0]) ∧ Below w.heap.size w w' := by
  have C1 := Lib.hid (length_any y m w hL)
  have b31 := (ln_le y m).2
  obtain ⟨l, HB⟩ : ∃ l, Hid (ln y m = l) := ⟨_, Lib.hid rfl⟩
  rw [HB.out] at C1 b31 hb
  have C2 := Lib.hid (same_any y m d l B w b h0 h1 h2 hb)
  clear hL hb h0 h1 h2
  have t : ¬ l > 31 := by omega
  go_enter Tryz.func122, Tryz.ntmps122
  go_wp2_with fail
  (with_reducible refine C1.out.mono ?_)
  rintro e w1 ⟨rfl, rfl⟩
  go_wp2_with fail
  all_goals first
    | ((with_reducible refine C2.out.mono ?_); rintro e w1 ⟨rfl, hb⟩; go_wp2; go_ret2; exact ⟨rfl, hb⟩)
    | (rw [show min 31 l = l from Int.min_eq_right b31]; (with_reducible refine C2.out.mono ?_); rintro e w1 ⟨rfl, hb⟩; go_wp2; go_ret2; exact ⟨rfl, hb⟩)
    | (have e31 : l = 31 := by omega
       subst e31
       (with_reducible refine C2.out.mono ?_); rintro e w1 ⟨rfl, hb⟩; go_wp2; go_ret2; exact ⟨rfl, hb⟩)
end Go.Proofs.YtkmchbllnfoccaaGreatDoor
