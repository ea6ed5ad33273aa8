/- Package ratio: Gcd: what divides both, for every numbers. -/
import Derived.Test.YtjijgcgbnmobfaaGreatDoorRatioNum
import Derived.Test.YtjijgcgbnmobfaaGreatDoorGWide
import Derived.WalkMore
import Derived.ScopeJumps
import Derived.RegionTactic
import Derived.Deep.QuietTactic
import Derived.BigQuiet
import Derived.Outline
namespace Go.Proofs.YtjijgcgbnmobfaaGreatDoor
open Go.RowKit

set_option maxHeartbeats 1000000 in
theorem gcd_any (a b : Int) (w : World) (a0 : 0 ≤ a) (a1 : a < 18446744073709551616) (b0 : 0 ≤ b) (b1 : b < 18446744073709551616) :
    Calls Tryz.prog 114 #[.int .u64 a, .int .u64 b] w fun e w' => e = .returned (.int .u64 (gi a b)) ∧ ∃ n, w' = w.drewN n := by
  go_enter Tryz.func114, Tryz.ntmps114
  go_wp2
  refine wp_scope_jumps 0 (fun a' w' => (∃ n, w' = w.drewN n) ∧ ∃ (x y : Int) (u2 u3 u4 u5 u6 u7 u8 u9 u10 u11 : Value), a' = { tmps := #[.int .u64 x, .int .u64 y, u2, u3, u4, u5, u6, u7, u8, u9, u10, u11], defers := [] } ∧ 0 ≤ x ∧ x < 18446744073709551616 ∧ 0 ≤ y ∧ y < 18446744073709551616 ∧ gi x y = gi a b) (fun a' _ => (intOf (a'.tmps.getD 1 undef)).toNat) rfl ?_ ?_
  · skip
    by_cases hz : b = 0
    · subst hz
      go_wp2
      go_step3
      go_wp2
      simp only [Exit.jump]
      go_ret
      exact ⟨by rw [gi_zero a (by omega)]; rfl, 0, rfl⟩
    · have t1 : (b == 0) = false := beq_eq_false_iff_ne.2 hz
      have k1 : 0 ≤ b := by omega
      have k2 : b < 18446744073709551616 := by omega
      have k3 : 0 ≤ a % b := Int.emod_nonneg _ hz
      have k6 : a % b < b := Int.emod_lt_of_pos _ (by omega)
      have k4 : a % b < 18446744073709551616 := by omega
      have k5 : gi b (a % b) = gi a b := gi_step a b a0 b0
      go_wp2
      go_step3
      go_wp2
      go_quiet (fail)
      go_wp2
      go_step3
      exact ⟨rfl, ⟨_, rfl⟩, b, a % b, _, _, _, _, _, _, _, _, _, _, rfl, k1, k2, k3, k4, k5⟩
  · rintro a' w' ⟨⟨m, rfl⟩, x, y, u2, u3, u4, u5, u6, u7, u8, u9, u10, u11, rfl, x0, x1, y0, y1, hs⟩
    by_cases hz : y = 0
    · subst hz
      go_wp2
      simp only [Exit.jump]
      go_ret
      exact ⟨by rw [← hs, gi_zero x (by omega)]; rfl, _, rfl⟩
    · have t1 : (y == 0) = false := beq_eq_false_iff_ne.2 hz
      have k1 : 0 ≤ y := by omega
      have k2 : y < 18446744073709551616 := by omega
      have k3 : 0 ≤ x % y := Int.emod_nonneg _ hz
      have k6 : x % y < y := Int.emod_lt_of_pos _ (by omega)
      have k4 : x % y < 18446744073709551616 := by omega
      have k5 : gi y (x % y) = gi a b := (gi_step x y (by omega) (by omega)).trans hs
      go_wp2
      go_quiet (fail)
      go_wp2
      go_step3
      exact ⟨rfl, ⟨⟨_, by rw [World.drewN_drewN]⟩, y, x % y, _, _, _, _, _, _, _, _, _, _, rfl, k1, k2, k3, k4, k5⟩, by simp [intOf]; omega⟩

theorem drewN_below {w : World} (n : Nat) : Below w.heap.size w (w.drewN n) := belowDrewN (Below.refl _ _) n
theorem gcd_below (a b : Int) (w : World) (a0 : 0 ≤ a) (a1 : a < 18446744073709551616) (b0 : 0 ≤ b) (b1 : b < 18446744073709551616) :
    Calls Tryz.prog 114 #[.int .u64 a, .int .u64 b] w fun e w' => e = .returned (.int .u64 (gi a b)) ∧ Below w.heap.size w w' :=
  (gcd_any a b w a0 a1 b0 b1).mono fun _ _ h => ⟨h.1, by obtain ⟨n, hn⟩ := h.2; rw [hn]; exact drewN_below n⟩

set_option maxHeartbeats 1000000 in
theorem lowest_any (n d : Int) (w : World) (n0 : 0 ≤ n) (n1 : n < 18446744073709551616) (d0 : 0 ≤ d) (d1 : d < 18446744073709551616) (hp : 0 < n ∨ 0 < d) :
    Calls Tryz.prog 110 #[.int .u64 n, .int .u64 d] w fun e w' => e = .returned (.tuple #[.int .u64 (mN n d), .int .u64 (mD n d)]) ∧ ∃ k, w' = w.drewN k := by
  obtain ⟨g, HG⟩ : ∃ g, Hid (gi n d = g) := ⟨_, Lib.hid rfl⟩
  have gp := gi_pos n d hp
  rw [HG.out] at gp
  have q1 : 0 ≤ n / g := Int.ediv_nonneg n0 (by omega)
  have q2 : n / g < 18446744073709551616 := Int.lt_of_le_of_lt (Int.ediv_le_self _ n0) n1
  have q3 : 0 ≤ d / g := Int.ediv_nonneg d0 (by omega)
  have q4 : d / g < 18446744073709551616 := Int.lt_of_le_of_lt (Int.ediv_le_self _ d0) d1
  have t1 : (g == 0) = false := beq_eq_false_iff_ne.2 (by omega)
  have hN := Lib.hid (show mN n d = n / g by rw [← HG.out]; rfl)
  have hD := Lib.hid (show mD n d = d / g by rw [← HG.out]; rfl)
  rw [hN.out, hD.out]
  have C := Lib.hid (gcd_any n d w n0 n1 d0 d1)
  clear hp
  go_enter Tryz.func110, Tryz.ntmps110
  go_wp2_with fail
  (with_reducible refine (C.out).mono ?_)
  rw [HG.out]
  rintro e w' ⟨rfl, m, rfl⟩
  go_wp2
  go_quiet (fail)
  go_wp2
  go_ret2
  exact ⟨rfl, _, by rw [World.drewN_drewN]⟩
end Go.Proofs.YtjijgcgbnmobfaaGreatDoor
