/- Package months: the month so many on; a day cut to its month's end, handed to what makes it. -/
import Derived.Test.YtjijgcgbnmobfaaGreatDoorMoNum
import Derived.Test.YtjijgcgbnmobfaaGreatDoorCShown
namespace Go.Proofs.YtjijgcgbnmobfaaGreatDoor
open Go.RowKit
set_option linter.unusedVariables false

set_option maxHeartbeats 1000000 in
theorem on_in (y m d k Y M : Int) (w : World) (h : may y m d) (h1 : 1 ≤ Y) (h2 : Y ≤ 9999) (h3 : 1 ≤ M) (h4 : M ≤ 12) (hM : 12 * Y + M = 12 * y + m + k) :
    Calls Tryz.prog 67 #[.agg #[.int .i64 y, .int .i64 m, .int .i64 d], .int .i64 k] w fun e w' => e = .returned (.tuple #[.int .i64 Y, .int .i64 M, .int .i64 0]) ∧ Below w.heap.size w w' := by
  have D : ∀ w : World, Below w.heap.size w (w.alloc (.cells #[.int .i64 y, .int .i64 m, .int .i64 d] 40)) := fun w => (Below.refl _ _).alloc (Nat.le_refl _) _
  obtain ⟨a1, a2, a3, a4, a5, a6⟩ := h
  clear a6
  have t1 : ¬ k < -((y - 1) * 12 + m - 1) := by omega
  have t2 : ¬ k > 119987 - ((y - 1) * 12 + m - 1) := by omega
  have e1 : 1 + ((y - 1) * 12 + m - 1 + k) / 12 = Y := by omega
  have e2 : 1 + ((y - 1) * 12 + m - 1 + k) % 12 = M := by omega
  go_enter Tryz.func67, Tryz.ntmps67
  go_wp2
  exact bodyPost_ret (v := .tuple #[.int .i64 Y, .int .i64 M, .int .i64 0]) (by simp [results, Tryz.results67, go_sem]) rfl ⟨rfl, D _⟩

set_option maxHeartbeats 1000000 in
theorem on_far (y m d k : Int) (w : World) (h : may y m d) (hk : 12 * y + m + k < 13 ∨ 120000 < 12 * y + m + k) :
    Calls Tryz.prog 67 #[.agg #[.int .i64 y, .int .i64 m, .int .i64 d], .int .i64 k] w fun e w' => e = .returned (.tuple #[.int .i64 0, .int .i64 0, .int .i64 3]) ∧ Below w.heap.size w w' := by
  have D : ∀ w : World, Below w.heap.size w (w.alloc (.cells #[.int .i64 y, .int .i64 m, .int .i64 d] 40)) := fun w => (Below.refl _ _).alloc (Nat.le_refl _) _
  obtain ⟨a1, a2, a3, a4, a5, a6⟩ := h
  clear a6
  by_cases t1 : k < -((y - 1) * 12 + m - 1)
  · go_enter Tryz.func67, Tryz.ntmps67
    go_wp2
    exact bodyPost_ret (v := .tuple #[.int .i64 0, .int .i64 0, .int .i64 3]) (by simp [results, Tryz.results67, go_sem]) rfl ⟨rfl, D _⟩
  · have t2 : k > 119987 - ((y - 1) * 12 + m - 1) := by omega
    go_enter Tryz.func67, Tryz.ntmps67
    go_wp2
    exact bodyPost_ret (v := .tuple #[.int .i64 0, .int .i64 0, .int .i64 3]) (by simp [results, Tryz.results67, go_sem]) rfl ⟨rfl, D _⟩

set_option maxHeartbeats 1000000 in
theorem cut_any (y m d n e : Int) (w : World) (hL : Lens w) (hn : nN y m (min d (ln y m)) = n ∧ nE y m (min d (ln y m)) = e) :
    Calls Tryz.prog 68 #[.int .i64 y, .int .i64 m, .int .i64 d, .func (.func 69) #[] #[]] w fun e' w' => e' = .returned (.tuple #[.int .i64 n, .int .i64 e]) ∧ Below w.heap.size w w' := by
  have HL := Lib.hid hL
  have C1 := Lib.hid (fun v h => length_any y m v h)
  have HN := Lib.hid hn
  clear hL hn
  obtain ⟨l, HB⟩ : ∃ l, Hid (ln y m = l) := ⟨_, Lib.hid rfl⟩
  rw [HB.out] at C1 HN
  go_enter Tryz.func68, Tryz.ntmps68
  go_wp2_with fail
  (with_reducible refine (C1.out _ HL.out).mono ?_)
  rintro e w1 ⟨rfl, rfl⟩
  go_wp2_with fail
  all_goals first
    | ((with_reducible refine (number_is y m (min d l) n e _ HL.out HN.out).mono ?_); rintro e w1 ⟨rfl, hb⟩; go_wp2; go_ret2; exact ⟨rfl, hb⟩)
    | (rw [Int.min_eq_right (by omega)] at HN; (with_reducible refine (number_is y m l n e _ HL.out HN.out).mono ?_); rintro e w1 ⟨rfl, hb⟩; go_wp2; go_ret2; exact ⟨rfl, hb⟩)
    | (rw [Int.min_eq_left (by omega)] at HN; (with_reducible refine (number_is y m d n e _ HL.out HN.out).mono ?_); rintro e w1 ⟨rfl, hb⟩; go_wp2; go_ret2; exact ⟨rfl, hb⟩)

/-- What is handed to the cut by Last: is the day made the day held? -/
theorem same_any (y m d D : Int) (B : Nat) (w : World) (b : Bool) (h0 : w.cell? ⟨B, 0, none⟩ = some (.int .i64 y)) (h1 : w.cell? ⟨B, 1, none⟩ = some (.int .i64 m)) (h2 : w.cell? ⟨B, 2, none⟩ = some (.int .i64 d))
    (hb : decide (d = D) = b) :
    Calls Tryz.prog 71 #[.agg #[.int .i64 y, .int .i64 m, .int .i64 D], .pointer (some ⟨B, 0, none⟩)] w fun e w' => e = .returned (.tuple #[.bool b, .int .i64 0]) ∧ Below w.heap.size w w' := by
  have A : ∀ w : World, Below w.heap.size w (w.alloc (.cells #[.int .i64 y, .int .i64 m, .int .i64 D] 40)) := fun w => (Below.refl _ _).alloc (Nat.le_refl _) _
  have l0 := cell_lt h0
  by_cases hd : d = D
  · subst hd
    obtain rfl : true = b := by rw [← hb]; simp
    clear hb
    go_enter Tryz.func71, Tryz.ntmps71
    go_wp2
    go_ret2
    exact ⟨rfl, A _⟩
  · obtain rfl : false = b := by rw [← hb]; simp [hd]
    clear hb
    go_enter Tryz.func71, Tryz.ntmps71
    go_wp2
    go_ret2
    exact ⟨rfl, A _⟩

set_option maxHeartbeats 1000000 in
theorem cutb_any (y m d : Int) (B : Nat) (b : Bool) (w : World) (hL : Lens w) (h0 : w.cell? ⟨B, 0, none⟩ = some (.int .i64 y)) (h1 : w.cell? ⟨B, 1, none⟩ = some (.int .i64 m)) (h2 : w.cell? ⟨B, 2, none⟩ = some (.int .i64 d))
    (hb : decide (d = ln y m) = b) :
    Calls Tryz.prog 70 #[.int .i64 y, .int .i64 m, .int .i64 31, .func (.func 71) #[] #[.pointer (some ⟨B, 0, none⟩)]] w fun e' w' => e' = .returned (.tuple #[.bool b, .int .i64 0]) ∧ Below w.heap.size w w' := by
  have C1 := Lib.hid (length_any y m w hL)
  have b31 := (ln_le y m).2
  obtain ⟨l, HB⟩ : ∃ l, Hid (ln y m = l) := ⟨_, Lib.hid rfl⟩
  rw [HB.out] at C1 b31 hb
  have C2 := Lib.hid (same_any y m d l B w b h0 h1 h2 hb)
  clear hL hb h0 h1 h2
  have t : ¬ l > 31 := by omega
  go_enter Tryz.func70, Tryz.ntmps70
  go_wp2_with fail
  (with_reducible refine C1.out.mono ?_)
  rintro e w1 ⟨rfl, rfl⟩
  go_wp2_with fail
  all_goals first
    | ((with_reducible refine C2.out.mono ?_); rintro e w1 ⟨rfl, hb⟩; go_wp2; go_ret2; exact ⟨rfl, hb⟩)
    | (rw [show min 31 l = l from Int.min_eq_right b31]; (with_reducible refine C2.out.mono ?_); rintro e w1 ⟨rfl, hb⟩; go_wp2; go_ret2; exact ⟨rfl, hb⟩)
    | (have e31 : l = 31 := by omega
       subst e31
       (with_reducible refine C2.out.mono ?_); rintro e w1 ⟨rfl, hb⟩; go_wp2; go_ret2; exact ⟨rfl, hb⟩)
end Go.Proofs.YtjijgcgbnmobfaaGreatDoor
