/- The reference's Right: which fractions are right. -/
import Derived.Test.YtkmchbllnfoccaaGreatDoorRKit
import Derived.LoopTactic
namespace Go.Proofs.YtkmchbllnfoccaaGreatDoor
open Go.RowKit
set_option linter.unusedVariables false

theorem one_mod (g : Int) (h : 0 < g) : ((1 : Int) % g == 0) = decide (g = 1) := by
  by_cases e : g = 1
  · subst e; rfl
  · rw [Int.emod_eq_of_lt (by omega) (by omega), decide_eq_false e]; rfl
theorem divides_yes (g : Int) (w : World) (h : 0 < g) (h1 : g ≤ 9223372036854775807) :
    Calls Tryz.prog 30 #[.int .i64 g, .int .i64 1] w fun e w' => e = .returned (.bool (decide (g = 1))) ∧ w = w' := by
  have t1 : (g == 0) = false := beq_eq_false_iff_ne.2 (by omega)
  have E := Lib.hid (one_mod g h)
  have m0 : 0 ≤ (1 : Int) % g := Int.emod_nonneg _ (by omega)
  have m1 : (1 : Int) % g < g := Int.emod_lt_of_pos _ h
  go_enter Tryz.func30, Tryz.ntmps30
  go_wp2
  go_ret
  exact ⟨by rw [← E.out]; rfl, rfl⟩

set_option maxHeartbeats 2000000 in
theorem rright_in (n d : Int) (w : World) (a : 0 ≤ n) (b : n ≤ 4611686018427387904) (c : 1 ≤ d) (e : d ≤ 4611686018427387904) :
    Calls Tryz.prog 17 #[.agg #[.int .i64 n, .int .i64 d]] w fun e w' => e = .returned (.bool (decide (gi n d = 1))) ∧ Below w.heap.size w w' := by
  have t1 : decide (n < 0) = false := by simp; omega
  have t2 : decide (4611686018427387904 < n) = false := by simp; omega
  have t3 : decide (d < 1) = false := by simp; omega
  have t4 : decide (4611686018427387904 < d) = false := by simp; omega
  have gp := gi_pos n d (Or.inr (by omega))
  obtain ⟨g, HG⟩ : ∃ g, Hid (gi n d = g) := ⟨_, Lib.hid rfl⟩
  rw [HG.out] at gp ⊢
  go_enter Tryz.func17, Tryz.ntmps17
  go_wp2
  go_loop [3, 4, 5] (fun x y z => ∃ p q : Int, x = .int .i64 p ∧ y = .int .i64 q ∧ 0 ≤ p ∧ p ≤ 4611686018427387904 ∧ 0 ≤ q ∧ q ≤ 4611686018427387904 ∧ gi p q = g) (fun _ y _ => (intOf y).toNat)
  case atStart => exact ⟨n, d, rfl, rfl, a, b, by omega, e, HG.out⟩
  case round =>
    obtain ⟨p, q, rfl, rfl, p0, p1, q0, q1, hg⟩ := hrel
    have HH := Lib.hid hg
    clear hg
    by_cases hz : q = 0
    · subst hz
      have hp : p = g := by rw [← HH.out, gi_zero p p0]
      have hp0 : 0 < p := by omega
      have HP := Lib.hid hp
      clear hp
      go_wp2_with fail
      (with_reducible refine (divides_yes p _ hp0 (by omega)).mono ?_)
      rw [HP.out]
      rintro e w' ⟨rfl, rfl⟩
      go_wp2
      go_ret
      exact ⟨rfl, (Below.refl _ _).alloc (Nat.le_refl _) _⟩
    · have t5 : (q == 0) = false := beq_eq_false_iff_ne.2 hz
      have t6 : decide (0 < q) = true := by simp; omega
      have k1 : 0 ≤ p % q := Int.emod_nonneg _ hz
      have k2 : p % q < q := Int.emod_lt_of_pos _ (by omega)
      have k3 : p % q ≤ 4611686018427387904 := by omega
      have k4 : Hid (gi q (p % q) = g) := Lib.hid ((gi_step p q p0 q0).trans HH.out)
      go_wp2
      go_round
      case rel => exact ⟨q, p % q, rfl, rfl, q0, q1, k1, k3, k4.out⟩
      case measure => simp [intOf]; omega

set_option maxHeartbeats 1000000 in
theorem rright_n1 (n d : Int) (w : World) (a : n < 0) :
    Calls Tryz.prog 17 #[.agg #[.int .i64 n, .int .i64 d]] w fun e w' => e = .returned (.bool false) ∧ Below w.heap.size w w' := by
  have t1 : decide (n < 0) = true := by simp; omega
  go_enter Tryz.func17, Tryz.ntmps17
  go_wp2
  go_ret
  exact ⟨rfl, (Below.refl _ _).alloc (Nat.le_refl _) _⟩

set_option maxHeartbeats 1000000 in
theorem rright_n2 (n d : Int) (w : World) (a : 0 ≤ n) (b : 4611686018427387904 < n) :
    Calls Tryz.prog 17 #[.agg #[.int .i64 n, .int .i64 d]] w fun e w' => e = .returned (.bool false) ∧ Below w.heap.size w w' := by
  have t1 : decide (n < 0) = false := by simp; omega
  have t2 : decide (4611686018427387904 < n) = true := by simp; omega
  go_enter Tryz.func17, Tryz.ntmps17
  go_wp2
  go_ret
  exact ⟨rfl, (Below.refl _ _).alloc (Nat.le_refl _) _⟩

set_option maxHeartbeats 1000000 in
theorem rright_n3 (n d : Int) (w : World) (a : 0 ≤ n) (b : n ≤ 4611686018427387904) (c : d < 1) :
    Calls Tryz.prog 17 #[.agg #[.int .i64 n, .int .i64 d]] w fun e w' => e = .returned (.bool false) ∧ Below w.heap.size w w' := by
  have t1 : decide (n < 0) = false := by simp; omega
  have t2 : decide (4611686018427387904 < n) = false := by simp; omega
  have t3 : decide (d < 1) = true := by simp; omega
  go_enter Tryz.func17, Tryz.ntmps17
  go_wp2
  go_ret
  exact ⟨rfl, (Below.refl _ _).alloc (Nat.le_refl _) _⟩

set_option maxHeartbeats 1000000 in
theorem rright_n4 (n d : Int) (w : World) (a : 0 ≤ n) (b : n ≤ 4611686018427387904) (c : 1 ≤ d) (e : 4611686018427387904 < d) :
    Calls Tryz.prog 17 #[.agg #[.int .i64 n, .int .i64 d]] w fun e w' => e = .returned (.bool false) ∧ Below w.heap.size w w' := by
  have t1 : decide (n < 0) = false := by simp; omega
  have t2 : decide (4611686018427387904 < n) = false := by simp; omega
  have t3 : decide (d < 1) = false := by simp; omega
  have t4 : decide (4611686018427387904 < d) = true := by simp; omega
  go_enter Tryz.func17, Tryz.ntmps17
  go_wp2
  go_ret
  exact ⟨rfl, (Below.refl _ _).alloc (Nat.le_refl _) _⟩

theorem rright_any (n d : Int) (w : World) :
    Calls Tryz.prog 17 #[.agg #[.int .i64 n, .int .i64 d]] w fun e w' => e = .returned (.bool (rightB n d)) ∧ Below w.heap.size w w' := by
  have no : ¬ (0 ≤ n ∧ n ≤ 4611686018427387904 ∧ 1 ≤ d ∧ d ≤ 4611686018427387904 ∧ gi n d = 1) → rightB n d = false := fun h => by unfold rightB; exact decide_eq_false h
  by_cases a : n < 0
  · rw [no (by omega)]; exact rright_n1 n d w a
  by_cases b : 4611686018427387904 < n
  · rw [no (by omega)]; exact rright_n2 n d w (by omega) b
  by_cases c : d < 1
  · rw [no (by omega)]; exact rright_n3 n d w (by omega) (by omega) c
  by_cases e : 4611686018427387904 < d
  · rw [no (by omega)]; exact rright_n4 n d w (by omega) (by omega) (by omega) e
  have k := rright_in n d w (by omega) (by omega) (by omega) (by omega)
  have : decide (gi n d = 1) = rightB n d := by
    by_cases g : gi n d = 1
    · rw [(right_iff n d).2 ⟨by omega, by omega, by omega, by omega, g⟩]; exact decide_eq_true g
    · rw [no (by omega)]; exact decide_eq_false g
  rwa [this] at k
theorem rright_is (n d : Int) (c : Bool) (w : World) (h : rightB n d = c) :
    Calls Tryz.prog 17 #[.agg #[.int .i64 n, .int .i64 d]] w fun e w' => e = .returned (.bool c) ∧ Below w.heap.size w w' := by
  subst h; exact rright_any n d w
end Go.Proofs.YtkmchbllnfoccaaGreatDoor
