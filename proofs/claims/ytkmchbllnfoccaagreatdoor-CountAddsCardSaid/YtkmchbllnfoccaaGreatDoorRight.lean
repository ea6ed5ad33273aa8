/- Package ratio: Right: which fractions are right. -/
import Derived.Test.YtkmchbllnfoccaaGreatDoorRKit
namespace Go.Proofs.YtkmchbllnfoccaaGreatDoor
open Go.RowKit
set_option linter.unusedVariables false

set_option maxHeartbeats 1000000 in
theorem right_y (n d : Int) (w : World) (a : 0 ≤ n) (b : n ≤ 4611686018427387904) (c : 1 ≤ d) (e : d ≤ 4611686018427387904) (hg : gi n d = 1) :
    Calls Tryz.prog 91 #[.agg #[.int .i64 n, .int .i64 d]] w fun e w' => e = .returned (.bool true) ∧ Below w.heap.size w w' := by
  have H := Held.start w
  obtain ⟨g, HG⟩ : ∃ g, Hid (gi n d = g) := ⟨_, Lib.hid rfl⟩
  rw [HG.out] at hg
  have tg : (g == 1) = true := beq_iff_eq.2 hg
  have t1 : decide (n < 0) = false := by simp; omega
  have t2 : decide (4611686018427387904 < n) = false := by simp; omega
  have t3 : decide (d < 1) = false := by simp; omega
  have t4 : decide (4611686018427387904 < d) = false := by simp; omega
  have w1 : IntKind.u64.wrap n = n := IntWalk.u64_in _ (by omega)
  have w2 : IntKind.u64.wrap d = d := IntWalk.u64_in _ (by omega)
  clear hg
  go_enter Tryz.func91, Tryz.ntmps91
  go_wp2_with fail
  replace H := (H.pair (w.heap.size) (.int .i64 n) (.int .i64 d) 29 rfl)
  (with_reducible refine (gcd_below n d _ (by omega) (by omega) (by omega) (by omega)).mono ?_)
  rw [HG.out]
  rintro e w1 ⟨rfl, hb⟩
  replace H := H.below hb
  clear hb
  go_wp2
  go_ret
  exact ⟨rfl, H.old⟩

set_option maxHeartbeats 1000000 in
theorem right_n (n d : Int) (w : World) (a : 0 ≤ n) (b : n ≤ 4611686018427387904) (c : 1 ≤ d) (e : d ≤ 4611686018427387904) (hg : gi n d ≠ 1) :
    Calls Tryz.prog 91 #[.agg #[.int .i64 n, .int .i64 d]] w fun e w' => e = .returned (.bool false) ∧ Below w.heap.size w w' := by
  have H := Held.start w
  obtain ⟨g, HG⟩ : ∃ g, Hid (gi n d = g) := ⟨_, Lib.hid rfl⟩
  rw [HG.out] at hg
  have tg : (g == 1) = false := beq_eq_false_iff_ne.2 hg
  have t1 : decide (n < 0) = false := by simp; omega
  have t2 : decide (4611686018427387904 < n) = false := by simp; omega
  have t3 : decide (d < 1) = false := by simp; omega
  have t4 : decide (4611686018427387904 < d) = false := by simp; omega
  have w1 : IntKind.u64.wrap n = n := IntWalk.u64_in _ (by omega)
  have w2 : IntKind.u64.wrap d = d := IntWalk.u64_in _ (by omega)
  clear hg
  go_enter Tryz.func91, Tryz.ntmps91
  go_wp2_with fail
  replace H := (H.pair (w.heap.size) (.int .i64 n) (.int .i64 d) 29 rfl)
  (with_reducible refine (gcd_below n d _ (by omega) (by omega) (by omega) (by omega)).mono ?_)
  rw [HG.out]
  rintro e w1 ⟨rfl, hb⟩
  replace H := H.below hb
  clear hb
  go_wp2
  go_ret
  exact ⟨rfl, H.old⟩

set_option maxHeartbeats 1000000 in
theorem right_n1 (n d : Int) (w : World) (a : n < 0) :
    Calls Tryz.prog 91 #[.agg #[.int .i64 n, .int .i64 d]] w fun e w' => e = .returned (.bool false) ∧ Below w.heap.size w w' := by
  have H := Held.start w
  have t1 : decide (n < 0) = true := by simp; omega
  go_enter Tryz.func91, Tryz.ntmps91
  go_wp2
  go_ret
  exact ⟨rfl, (Below.refl _ _).alloc (Nat.le_refl _) _⟩

set_option maxHeartbeats 1000000 in
theorem right_n2 (n d : Int) (w : World) (a : 0 ≤ n) (b : 4611686018427387904 < n) :
    Calls Tryz.prog 91 #[.agg #[.int .i64 n, .int .i64 d]] w fun e w' => e = .returned (.bool false) ∧ Below w.heap.size w w' := by
  have H := Held.start w
  have t1 : decide (n < 0) = false := by simp; omega
  have t2 : decide (4611686018427387904 < n) = true := by simp; omega
  go_enter Tryz.func91, Tryz.ntmps91
  go_wp2
  go_ret
  exact ⟨rfl, (Below.refl _ _).alloc (Nat.le_refl _) _⟩

set_option maxHeartbeats 1000000 in
theorem right_n3 (n d : Int) (w : World) (a : 0 ≤ n) (b : n ≤ 4611686018427387904) (c : d < 1) :
    Calls Tryz.prog 91 #[.agg #[.int .i64 n, .int .i64 d]] w fun e w' => e = .returned (.bool false) ∧ Below w.heap.size w w' := by
  have H := Held.start w
  have t1 : decide (n < 0) = false := by simp; omega
  have t2 : decide (4611686018427387904 < n) = false := by simp; omega
  have t3 : decide (d < 1) = true := by simp; omega
  go_enter Tryz.func91, Tryz.ntmps91
  go_wp2
  go_ret
  exact ⟨rfl, (Below.refl _ _).alloc (Nat.le_refl _) _⟩

set_option maxHeartbeats 1000000 in
theorem right_n4 (n d : Int) (w : World) (a : 0 ≤ n) (b : n ≤ 4611686018427387904) (c : 1 ≤ d) (e : 4611686018427387904 < d) :
    Calls Tryz.prog 91 #[.agg #[.int .i64 n, .int .i64 d]] w fun e w' => e = .returned (.bool false) ∧ Below w.heap.size w w' := by
  have H := Held.start w
  have t1 : decide (n < 0) = false := by simp; omega
  have t2 : decide (4611686018427387904 < n) = false := by simp; omega
  have t3 : decide (d < 1) = false := by simp; omega
  have t4 : decide (4611686018427387904 < d) = true := by simp; omega
  go_enter Tryz.func91, Tryz.ntmps91
  go_wp2
  go_ret
  exact ⟨rfl, (Below.refl _ _).alloc (Nat.le_refl _) _⟩

theorem right_any (n d : Int) (w : World) :
    Calls Tryz.prog 91 #[.agg #[.int .i64 n, .int .i64 d]] w fun e w' => e = .returned (.bool (rightB n d)) ∧ Below w.heap.size w w' := by
  have no : ¬ (0 ≤ n ∧ n ≤ 4611686018427387904 ∧ 1 ≤ d ∧ d ≤ 4611686018427387904 ∧ gi n d = 1) → rightB n d = false := fun h => by unfold rightB; exact decide_eq_false h
  by_cases a : n < 0
  · rw [no (by omega)]; exact right_n1 n d w a
  by_cases b : 4611686018427387904 < n
  · rw [no (by omega)]; exact right_n2 n d w (by omega) b
  by_cases c : d < 1
  · rw [no (by omega)]; exact right_n3 n d w (by omega) (by omega) c
  by_cases e : 4611686018427387904 < d
  · rw [no (by omega)]; exact right_n4 n d w (by omega) (by omega) (by omega) e
  by_cases g : gi n d = 1
  · rw [(right_iff n d).2 ⟨by omega, by omega, by omega, by omega, g⟩]; exact right_y n d w (by omega) (by omega) (by omega) (by omega) g
  · rw [no (by omega)]; exact right_n n d w (by omega) (by omega) (by omega) (by omega) g
theorem right_yes (n d : Int) (w : World) (h : rightB n d = true) :
    Calls Tryz.prog 91 #[.agg #[.int .i64 n, .int .i64 d]] w fun e w' => e = .returned (.bool true) ∧ Below w.heap.size w w' := by
  have := right_any n d w; rwa [h] at this
end Go.Proofs.YtkmchbllnfoccaaGreatDoor
