/- Package wide: upward, with each of the three closures. -/
import Derived.Test.YtcpifgoglcoeeaaSteps
namespace Go.Proofs.Ytcpifgoglcoeeaa
open Go.RowKit

theorem far_cell {w : World} {o : Obj} {v : Value} {p k n : Nat} (h : w.cell? ⟨p, k, none⟩ = some v) (hp : p < w.heap.size) :
    ((w.alloc o).drewN n).cell? ⟨p, k, none⟩ = some v := by
  have hb : Below w.heap.size w ((w.alloc o).drewN n) := belowDrewN ((Below.refl _ _).alloc (Nat.le_refl _) o) n
  exact (hb.cell (p := ⟨p, k, none⟩) hp).trans h
theorem new_cell {w : World} {o : Obj} {v : Value} {p k : Nat} (h : w.cell? ⟨p, k, none⟩ = some v) (hp : p < w.heap.size) : (w.alloc o).cell? ⟨p, k, none⟩ = some v :=
  (((Below.refl w.heap.size w).alloc (Nat.le_refl _) o).cell (p := ⟨p, k, none⟩) hp).trans h

set_option maxHeartbeats 400000 in
theorem upward_add (a0 a1 b0 b1 : Int) (pa pb : Nat) (w : World) (ha0 : w.cell? ⟨pa, 0, none⟩ = some (.int .u64 a0)) (ha1 : w.cell? ⟨pa, 1, none⟩ = some (.int .u64 a1)) (hb0 : w.cell? ⟨pb, 0, none⟩ = some (.int .u64 b0)) (hb1 : w.cell? ⟨pb, 1, none⟩ = some (.int .u64 b1)) (hpa : pa < w.heap.size) (hpb : pb < w.heap.size)
    (k1 : 0 ≤ a0) (k2 : a0 < 18446744073709551616) (k3 : 0 ≤ a1) (k5 : 0 ≤ b0) (k6 : b0 < 18446744073709551616) (k7 : 0 ≤ b1) :
    Calls Try.prog 29 #[.func (.func 33) #[] #[.pointer (some ⟨pa, 0, none⟩), .pointer (some ⟨pb, 0, none⟩)]] w fun e w' =>
      e = .returned (.tuple #[.agg #[.int .u64 ((a0 + b0 + 0) % 18446744073709551616), .int .u64 ((a1 + b1 + (a0 + b0 + 0) / 18446744073709551616) % 18446744073709551616)], .int .u64 ((a1 + b1 + (a0 + b0 + 0) / 18446744073709551616) / 18446744073709551616)]) ∧ Below w.heap.size w w' := by
  obtain ⟨s0, S0⟩ : ∃ s, Hid ((a0 + b0 + 0) % 18446744073709551616 = s) := ⟨_, Lib.hid rfl⟩
  obtain ⟨d0, D0⟩ : ∃ s, Hid ((a0 + b0 + 0) / 18446744073709551616 = s) := ⟨_, Lib.hid rfl⟩
  obtain ⟨s1, S1⟩ : ∃ s, Hid ((a1 + b1 + d0) % 18446744073709551616 = s) := ⟨_, Lib.hid rfl⟩
  obtain ⟨d1, D1⟩ : ∃ s, Hid ((a1 + b1 + d0) / 18446744073709551616 = s) := ⟨_, Lib.hid rfl⟩
  have q0 : 0 ≤ (a0 + b0 + 0) / 18446744073709551616 := by omega
  have q1 : (a0 + b0 + 0) / 18446744073709551616 ≤ 1 := by omega
  rw [D0.out] at q0 q1
  rw [D0.out, S0.out, S1.out, D1.out]
  go_enter Try.func29, Try.ntmps29
  go_wp2
  refine wp_loop_rounds 3 ?_
  rw [rounds_succ]
  go_wp2_with fail
  refine (addStep0 a0 b0 0 pa pb _ (new_cell ha0 hpa) (new_cell hb0 hpb) k1 k5 (by omega) (by omega)).mono ?_
  rw [S0.out, D0.out]
  rintro e w' ⟨rfl, nd, rfl⟩
  go_wp2_with fail
  rw [rounds_succ]
  go_wp2_with fail
  refine (addStep1 a1 b1 d0 pa pb _ (far_cell ha1 hpa) (far_cell hb1 hpb) k3 k7 q0 q1).mono ?_
  rw [S1.out, D1.out]
  rintro e w' ⟨rfl, md, rfl⟩
  go_wp2_with fail
  rw [rounds_succ]
  go_wp2_with fail
  refine bodyPost_ret (v := .tuple #[.agg #[.int .u64 s0, .int .u64 s1], .int .u64 d1]) (by simp [results, Try.results29, go_sem]) rfl ⟨rfl, ?_⟩
  exact belowDrewN ((Below.refl _ _).alloc (Nat.le_refl _) _) _

set_option maxHeartbeats 400000 in
theorem upward_sub (a0 a1 b0 b1 : Int) (pa pb : Nat) (w : World) (ha0 : w.cell? ⟨pa, 0, none⟩ = some (.int .u64 a0)) (ha1 : w.cell? ⟨pa, 1, none⟩ = some (.int .u64 a1)) (hb0 : w.cell? ⟨pb, 0, none⟩ = some (.int .u64 b0)) (hb1 : w.cell? ⟨pb, 1, none⟩ = some (.int .u64 b1)) (hpa : pa < w.heap.size) (hpb : pb < w.heap.size)
    (k1 : 0 ≤ a0) (k3 : 0 ≤ a1) (k5 : 0 ≤ b0) (k6 : b0 < 18446744073709551616) (k7 : 0 ≤ b1) (k8 : b1 < 18446744073709551616) :
    Calls Try.prog 29 #[.func (.func 34) #[] #[.pointer (some ⟨pa, 0, none⟩), .pointer (some ⟨pb, 0, none⟩)]] w fun e w' =>
      e = .returned (.tuple #[.agg #[.int .u64 ((a0 - b0 - 0) % 18446744073709551616), .int .u64 ((a1 - b1 - (if a0 < b0 + 0 then 1 else 0)) % 18446744073709551616)], .int .u64 (if a1 < b1 + (if a0 < b0 + 0 then 1 else 0) then 1 else 0)]) ∧ Below w.heap.size w w' := by
  obtain ⟨s0, S0⟩ : ∃ s, Hid ((a0 - b0 - 0) % 18446744073709551616 = s) := ⟨_, Lib.hid rfl⟩
  obtain ⟨d0, D0⟩ : ∃ s, Hid ((if a0 < b0 + 0 then (1 : Int) else 0) = s) := ⟨_, Lib.hid rfl⟩
  obtain ⟨s1, S1⟩ : ∃ s, Hid ((a1 - b1 - d0) % 18446744073709551616 = s) := ⟨_, Lib.hid rfl⟩
  obtain ⟨d1, D1⟩ : ∃ s, Hid ((if a1 < b1 + d0 then (1 : Int) else 0) = s) := ⟨_, Lib.hid rfl⟩
  have q0 : 0 ≤ (if a0 < b0 + 0 then (1 : Int) else 0) := by split <;> omega
  have q1 : (if a0 < b0 + 0 then (1 : Int) else 0) ≤ 1 := by split <;> omega
  rw [D0.out] at q0 q1
  rw [D0.out, S0.out, S1.out, D1.out]
  go_enter Try.func29, Try.ntmps29
  go_wp2
  refine wp_loop_rounds 3 ?_
  rw [rounds_succ]
  go_wp2_with fail
  refine (subStep0 a0 b0 0 pa pb _ (new_cell ha0 hpa) (new_cell hb0 hpb) k1 k5 k6 (by omega) (by omega)).mono ?_
  rw [S0.out, D0.out]
  rintro e w' ⟨rfl, nd, rfl⟩
  go_wp2_with fail
  rw [rounds_succ]
  go_wp2_with fail
  refine (subStep1 a1 b1 d0 pa pb _ (far_cell ha1 hpa) (far_cell hb1 hpb) k3 k7 k8 q0 q1).mono ?_
  rw [S1.out, D1.out]
  rintro e w' ⟨rfl, md, rfl⟩
  go_wp2_with fail
  rw [rounds_succ]
  go_wp2_with fail
  refine bodyPost_ret (v := .tuple #[.agg #[.int .u64 s0, .int .u64 s1], .int .u64 d1]) (by simp [results, Try.results29, go_sem]) rfl ⟨rfl, ?_⟩
  exact belowDrewN ((Below.refl _ _).alloc (Nat.le_refl _) _) _

set_option maxHeartbeats 400000 in
theorem upward_times (a0 a1 n : Int) (pa pb : Nat) (w : World) (ha0 : w.cell? ⟨pa, 0, none⟩ = some (.int .u64 a0)) (ha1 : w.cell? ⟨pa, 1, none⟩ = some (.int .u64 a1)) (hn : w.cell? ⟨pb, 0, none⟩ = some (.int .u64 n)) (hpa : pa < w.heap.size) (hpb : pb < w.heap.size)
    (k1 : 0 ≤ a0) (k2 : a0 < 18446744073709551616) (k3 : 0 ≤ a1) (k4 : a1 < 18446744073709551616) (k5 : 0 ≤ n) (k6 : n < 18446744073709551616) :
    Calls Try.prog 29 #[.func (.func 30) #[] #[.pointer (some ⟨pa, 0, none⟩), .pointer (some ⟨pb, 0, none⟩)]] w fun e w' =>
      e = .returned (.tuple #[.agg #[.int .u64 ((a0 * n + 0) % 18446744073709551616), .int .u64 ((a1 * n + (a0 * n + 0) / 18446744073709551616) % 18446744073709551616)], .int .u64 ((a1 * n + (a0 * n + 0) / 18446744073709551616) / 18446744073709551616)]) ∧ Below w.heap.size w w' := by
  obtain ⟨s0, S0⟩ : ∃ s, Hid ((a0 * n + 0) % 18446744073709551616 = s) := ⟨_, Lib.hid rfl⟩
  obtain ⟨d0, D0⟩ : ∃ s, Hid ((a0 * n + 0) / 18446744073709551616 = s) := ⟨_, Lib.hid rfl⟩
  obtain ⟨s1, S1⟩ : ∃ s, Hid ((a1 * n + d0) % 18446744073709551616 = s) := ⟨_, Lib.hid rfl⟩
  obtain ⟨d1, D1⟩ : ∃ s, Hid ((a1 * n + d0) / 18446744073709551616 = s) := ⟨_, Lib.hid rfl⟩
  have hp : 0 ≤ a0 * n := Int.mul_nonneg k1 k5
  have hle : a0 * n ≤ 18446744073709551615 * 18446744073709551615 := Int.mul_le_mul (by omega) (by omega) k5 (by omega)
  have q0 : 0 ≤ (a0 * n + 0) / 18446744073709551616 := by omega
  have q1 : (a0 * n + 0) / 18446744073709551616 < 18446744073709551616 := by omega
  clear hle hp
  rw [D0.out] at q0 q1
  rw [D0.out, S0.out, S1.out, D1.out]
  go_enter Try.func29, Try.ntmps29
  go_wp2
  refine wp_loop_rounds 3 ?_
  rw [rounds_succ]
  go_wp2_with fail
  refine (timesStep0 a0 n 0 pa pb _ (new_cell ha0 hpa) (new_cell hn hpb) k1 k2 k5 k6 (by omega) (by omega)).mono ?_
  rw [S0.out, D0.out]
  rintro e w' ⟨rfl, nd, rfl⟩
  go_wp2_with fail
  rw [rounds_succ]
  go_wp2_with fail
  refine (timesStep1 a1 n d0 pa pb _ (far_cell ha1 hpa) (far_cell hn hpb) k3 k4 k5 k6 q0 q1).mono ?_
  rw [S1.out, D1.out]
  rintro e w' ⟨rfl, md, rfl⟩
  go_wp2_with fail
  rw [rounds_succ]
  go_wp2_with fail
  refine bodyPost_ret (v := .tuple #[.agg #[.int .u64 s0, .int .u64 s1], .int .u64 d1]) (by simp [results, Try.results29, go_sem]) rfl ⟨rfl, ?_⟩
  exact belowDrewN ((Below.refl _ _).alloc (Nat.le_refl _) _) _
end Go.Proofs.Ytcpifgoglcoeeaa
