/- Package wide: upward, with each of the three closures. -/
import Derived.Test.YtmaioofcmgaakaaGreatDoorSteps
namespace Go.Proofs.YtmaioofcmgaakaaGreatDoor
open Go.RowKit

theorem far_cell {w : World} {o : Obj} {v : Value} {p k n : Nat} (h : w.cell? ⟨p, k, none⟩ = some v) (hp : p < w.heap.size) :
    ((w.alloc o).drewN n).cell? ⟨p, k, none⟩ = some v := by
  have hb : Below w.heap.size w ((w.alloc o).drewN n) := belowDrewN ((Below.refl _ _).alloc (Nat.le_refl _) o) n
  exact (hb.cell (p := ⟨p, k, none⟩) hp).trans h
theorem new_cell {w : World} {o : Obj} {v : Value} {p k : Nat} (h : w.cell? ⟨p, k, none⟩ = some v) (hp : p < w.heap.size) : (w.alloc o).cell? ⟨p, k, none⟩ = some v :=
  (((Below.refl w.heap.size w).alloc (Nat.le_refl _) o).cell (p := ⟨p, k, none⟩) hp).trans h

set_option maxHeartbeats 400000 in
theorem upward_add (a0 a1 b0 b1 : Int) (pa pb : Nat) (w : World) (ha0 : w.cell? ⟨pa, 0, none⟩ = some (.int .u64 a0)) (ha1 : w.cell? ⟨pa, 1, none⟩ = some (.int .u64 a1)) (hb0 : w.cell? ⟨pb, 0, none⟩ = some (.int .u64 b0)) (hb1 : w.cell? ⟨pb, 1, none⟩ = some (.int .u64 b1)) (hpa : pa < w.heap.size) (hpb : pb < w.heap.size)
    (k1 : 0 ≤ a0) (k2 : a0 < 18446744073709551616) (k3 : 0 ≤ a1) (k5 : 0 ≤ b0) (k6 : b0 < 18446744073709551616) (k7 : 0 ≤ b1) :
    Calls Tryz.prog 94 #[.func (.func 95) #[] #[.pointer (some ⟨pa, 0, none⟩), .pointer (some ⟨pb, 0, none⟩)]] w fun e w' =>
      e = .returned (.tuple #[.agg #[.int .u64 ((a0 + b0 + 0) % 18446744073709551616), .int .u64 ((a1 + b1 + (a0 + b0 + 0) / 18446744073709551616) % 18446744073709551616)], .int .u64 ((a1 + b1 + (a0 + b0 + 0) / 18446744073709551616) / 18446744073709551616)]) ∧ Below w.heap.size w w' := by
  obtain ⟨s0, S0⟩ : ∃ s, Hid ((a0 + b0 + 0) % 18446744073709551616 = s) := ⟨_, Lib.hid rfl⟩
  obtain ⟨d0, D0⟩ : ∃ s, Hid ((a0 + b0 + 0) / 18446744073709551616 = s) := ⟨_, Lib.hid rfl⟩
  obtain ⟨s1, S1⟩ : ∃ s, Hid ((a1 + b1 + d0) % 18446744073709551616 = s) := ⟨_, Lib.hid rfl⟩
  obtain ⟨d1, D1⟩ : ∃ s, Hid ((a1 + b1 + d0) / 18446744073709551616 = s) := ⟨_, Lib.hid rfl⟩
  have q0 : 0 ≤ (a0 + b0 + 0) / 18446744073709551616 := by omega
  have q1 : (a0 + b0 + 0) / 18446744073709551616 ≤ 1 := by omega
  rw [D0.out] at q0 q1
  rw [D0.out, S0.out, S1.out, D1.out]
  go_enter Tryz.func94, Tryz.ntmps94
  go_wp2
  refine wp_loop_rounds 3 ?_
  rw [rounds_succ]
  go_wp2_with fail
  refine (addStep0 a0 b0 0 pa pb _ (new_cell ha0 hpa) (new_cell hb0 hpb) k1 k5 (by omega) (by omega)).mono ?_
  rw [S0.out, D0.out]
  rintro e w' ⟨rfl, nd, rfl⟩
  go_wp2_with fail
  rw [rounds_succ]
  go_wp2_with fail
  refine (addStep1 a1 b1 d0 pa pb _ (far_cell ha1 hpa) (far_cell hb1 hpb) k3 k7 q0 q1).mono ?_
  rw [S1.out, D1.out]
  rintro e w' ⟨rfl, md, rfl⟩
  go_wp2_with fail
  rw [rounds_succ]
  go_wp2_with fail
  refine bodyPost_ret (v := .tuple #[.agg #[.int .u64 s0, .int .u64 s1], .int .u64 d1]) (by simp [results, Tryz.results94, go_sem]) rfl ⟨rfl, ?_⟩
  exact belowDrewN ((Below.refl _ _).alloc (Nat.le_refl _) _) _

end Go.Proofs.YtmaioofcmgaakaaGreatDoor
