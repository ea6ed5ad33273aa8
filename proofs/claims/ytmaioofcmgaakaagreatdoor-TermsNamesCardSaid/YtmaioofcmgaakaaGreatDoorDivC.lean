/- Package wide: Div: how often, and what is left; by 0 it is refused. -/
import Derived.Test.YtmaioofcmgaakaaGreatDoorWideC
import Derived.Test.YtmaioofcmgaakaaGreatDoorDivB
namespace Go.Proofs.YtmaioofcmgaakaaGreatDoor
open Go.RowKit

theorem quietDrew {P : Program} {f : FuncId} {args : Array Value} {w : World} {n : Nat} {v : Value}
    (h : Calls P f args (w.drewN n) fun e w' => e = .returned v ∧ ∃ m, w' = (w.drewN n).drewN m) : Calls P f args (w.drewN n) fun e w'' => e = .returned v ∧ ∃ m, w'' = w.drewN m :=
  h.mono fun _ _ hh => ⟨hh.1, by obtain ⟨m, hm⟩ := hh.2; exact ⟨n + m, by rw [hm, World.drewN_drewN]⟩⟩

set_option maxHeartbeats 400000 in
theorem divStep0 (a d c : Int) (pa pd : Nat) (w : World) (ha : w.cell? ⟨pa, 0, none⟩ = some (.int .u64 a)) (hd : w.cell? ⟨pd, 0, none⟩ = some (.int .u64 d))
    (h1 : 0 ≤ a) (h2 : a < 18446744073709551616) (h3 : 0 ≤ c) (h4 : c < d) (h5 : d < 18446744073709551616) :
    Calls Tryz.prog 99 #[.int .i64 0, .int .u64 c, .pointer (some ⟨pa, 0, none⟩), .pointer (some ⟨pd, 0, none⟩)] w fun e w' =>
      e = .returned (.tuple #[.int .u64 ((c * 18446744073709551616 + a) / d), .int .u64 ((c * 18446744073709551616 + a) % d)]) ∧ ∃ n, w' = w.drewN n := by
  have c41 := fun w => div64 c a d w h3 h4 h5 h1 h2
  have C41 := Lib.hid c41
  clear c41
  generalize (c * 18446744073709551616 + a) / d = Q at *
  generalize (c * 18446744073709551616 + a) % d = R at *
  go_enter Tryz.func99, Tryz.ntmps99
  go_wp2
  go_quiet ((go_at_call 100; exact quietDrew (C41.out _)))
  go_wp2
  go_ret2
  exact ⟨rfl, _, rfl⟩

set_option maxHeartbeats 400000 in
theorem divStep1 (a d c : Int) (pa pd : Nat) (w : World) (ha : w.cell? ⟨pa, 1, none⟩ = some (.int .u64 a)) (hd : w.cell? ⟨pd, 0, none⟩ = some (.int .u64 d))
    (h1 : 0 ≤ a) (h2 : a < 18446744073709551616) (h3 : 0 ≤ c) (h4 : c < d) (h5 : d < 18446744073709551616) :
    Calls Tryz.prog 99 #[.int .i64 1, .int .u64 c, .pointer (some ⟨pa, 0, none⟩), .pointer (some ⟨pd, 0, none⟩)] w fun e w' =>
      e = .returned (.tuple #[.int .u64 ((c * 18446744073709551616 + a) / d), .int .u64 ((c * 18446744073709551616 + a) % d)]) ∧ ∃ n, w' = w.drewN n := by
  have c41 := fun w => div64 c a d w h3 h4 h5 h1 h2
  have C41 := Lib.hid c41
  clear c41
  generalize (c * 18446744073709551616 + a) / d = Q at *
  generalize (c * 18446744073709551616 + a) % d = R at *
  go_enter Tryz.func99, Tryz.ntmps99
  go_wp2
  go_quiet ((go_at_call 100; exact quietDrew (C41.out _)))
  go_wp2
  go_ret2
  exact ⟨rfl, _, rfl⟩

set_option maxHeartbeats 400000 in
theorem downward_div (a0 a1 d : Int) (pa pd : Nat) (w : World) (ha0 : w.cell? ⟨pa, 0, none⟩ = some (.int .u64 a0)) (ha1 : w.cell? ⟨pa, 1, none⟩ = some (.int .u64 a1)) (hd : w.cell? ⟨pd, 0, none⟩ = some (.int .u64 d)) (hpa : pa < w.heap.size) (hpd : pd < w.heap.size)
    (k1 : 0 ≤ a0) (k2 : a0 < 18446744073709551616) (k3 : 0 ≤ a1) (k4 : a1 < 18446744073709551616) (k5 : 0 < d) (k6 : d < 18446744073709551616) :
    Calls Tryz.prog 98 #[.func (.func 99) #[] #[.pointer (some ⟨pa, 0, none⟩), .pointer (some ⟨pd, 0, none⟩)]] w fun e w' =>
      e = .returned (.tuple #[.agg #[.int .u64 (((0 * 18446744073709551616 + a1) % d * 18446744073709551616 + a0) / d), .int .u64 ((0 * 18446744073709551616 + a1) / d)], .int .u64 (((0 * 18446744073709551616 + a1) % d * 18446744073709551616 + a0) % d)]) ∧ Below w.heap.size w w' := by
  obtain ⟨s1, S1⟩ : ∃ s, Hid ((0 * 18446744073709551616 + a1) / d = s) := ⟨_, Lib.hid rfl⟩
  obtain ⟨d1, D1⟩ : ∃ s, Hid ((0 * 18446744073709551616 + a1) % d = s) := ⟨_, Lib.hid rfl⟩
  obtain ⟨s0, S0⟩ : ∃ s, Hid ((d1 * 18446744073709551616 + a0) / d = s) := ⟨_, Lib.hid rfl⟩
  obtain ⟨d0, D0⟩ : ∃ s, Hid ((d1 * 18446744073709551616 + a0) % d = s) := ⟨_, Lib.hid rfl⟩
  have q0 : 0 ≤ d1 := by rw [← D1.out]; exact Int.emod_nonneg _ (by omega)
  have q1 : d1 < d := by rw [← D1.out]; exact Int.emod_lt_of_pos _ k5
  rw [D1.out, S1.out, S0.out, D0.out]
  go_enter Tryz.func98, Tryz.ntmps98
  go_wp2
  refine wp_loop_rounds 3 ?_
  rw [rounds_succ]
  go_wp2_with fail
  refine (divStep1 a1 d 0 pa pd _ (new_cell ha1 hpa) (new_cell hd hpd) k3 k4 (by omega) k5 k6).mono ?_
  rw [S1.out, D1.out]
  rintro e w' ⟨rfl, nd, rfl⟩
  go_wp2_with fail
  rw [rounds_succ]
  go_wp2_with fail
  refine (divStep0 a0 d d1 pa pd _ (far_cell ha0 hpa) (far_cell hd hpd) k1 k2 q0 q1 k6).mono ?_
  rw [S0.out, D0.out]
  rintro e w' ⟨rfl, md, rfl⟩
  go_wp2_with fail
  rw [rounds_succ]
  go_wp2_with fail
  refine bodyPost_ret (v := .tuple #[.agg #[.int .u64 s0, .int .u64 s1], .int .u64 d0]) (by simp [results, Tryz.results98, go_sem]) rfl ⟨rfl, ?_⟩
  exact belowDrewN ((Below.refl _ _).alloc (Nat.le_refl _) _) _

theorem div_lo (a1 a0 d : Int) (hd : 0 < d) (h0 : 0 ≤ a1) (h1 : a1 < 18446744073709551616) (h2 : 0 ≤ a0) (h3 : a0 < 18446744073709551616) : ((0 * 18446744073709551616 + a1) % d * 18446744073709551616 + a0) / d = lo (wn a1 a0 / d) ∧ (0 * 18446744073709551616 + a1) / d = hi (wn a1 a0 / d) ∧ ((0 * 18446744073709551616 + a1) % d * 18446744073709551616 + a0) % d = wn a1 a0 % d := by
  have e := Int.mul_ediv_add_emod (0 * 18446744073709551616 + a1) d
  have m0 := Int.emod_nonneg (0 * 18446744073709551616 + a1) (show d ≠ 0 by omega)
  have m1 := Int.emod_lt_of_pos (0 * 18446744073709551616 + a1) hd
  have hq0 : 0 ≤ (0 * 18446744073709551616 + a1) / d := Int.ediv_nonneg (by omega) (by omega)
  generalize (0 * 18446744073709551616 + a1) / d = q at *
  generalize (0 * 18446744073709551616 + a1) % d = r at *
  have k : wn a1 a0 = (r * 18446744073709551616 + a0) + d * (q * 18446744073709551616) := by
    unfold wn
    rw [← Int.mul_assoc]
    generalize d * q = p at *
    omega
  have lt : (r * 18446744073709551616 + a0) / d < 18446744073709551616 := Int.ediv_lt_of_lt_mul hd (by omega)
  have ge : 0 ≤ (r * 18446744073709551616 + a0) / d := Int.ediv_nonneg (by omega) (by omega)
  rw [k, Int.add_mul_ediv_left _ _ (by omega), Int.add_mul_emod_self_left]
  unfold lo hi
  generalize (r * 18446744073709551616 + a0) / d = t at *
  refine ⟨by omega, by omega, rfl⟩

theorem div_no (a1 a0 : Int) (w : World) :
    Calls Tryz.prog 83 #[.agg #[.int .u64 a1, .int .u64 a0], .int .u64 0] w fun e w' => e = .returned (.tuple #[.agg #[.int .u64 0, .int .u64 0], .int .u64 0, .int .i64 7]) ∧ Below w.heap.size w w' := by
  go_enter Tryz.func83, Tryz.ntmps83
  go_wp2
  exact bodyPost_ret (v := .tuple #[.agg #[.int .u64 0, .int .u64 0], .int .u64 0, .int .i64 7]) (by simp [results, Tryz.results83, go_sem]) rfl ⟨rfl, (((Below.refl _ _).alloc (Nat.le_refl _) _).alloc (by simp) _).alloc (by simp <;> omega) _⟩

set_option maxHeartbeats 400000 in
theorem div_yes (a1 a0 d : Int) (w : World) (k1 : 0 ≤ a0) (k2 : a0 < 18446744073709551616) (k3 : 0 ≤ a1) (k4 : a1 < 18446744073709551616) (k5 : 0 < d) (k6 : d < 18446744073709551616) :
    Calls Tryz.prog 83 #[.agg #[.int .u64 a1, .int .u64 a0], .int .u64 d] w fun e w' => e = .returned (.tuple #[.agg #[.int .u64 (hi (wn a1 a0 / d)), .int .u64 (lo (wn a1 a0 / d))], .int .u64 (wn a1 a0 % d), .int .i64 0]) ∧ Below w.heap.size w w' := by
  have hmf : ∀ (fn : Fn) (first cap : Array Value) (w : World), (Instr.makeFunc fn first cap).run Tryz.prog w = .ok (.func fn first cap) w := fun _ _ _ _ => rfl
  have t1 : (d == 0) = false := beq_eq_false_iff_ne.2 (by omega)
  have E := Lib.hid (div_lo a1 a0 d k5 k3 k4 k1 k2)
  generalize hi (wn a1 a0 / d) = r1 at *
  generalize lo (wn a1 a0 / d) = r0 at *
  generalize wn a1 a0 % d = c at *
  go_enter Tryz.func83, Tryz.ntmps83
  go_wp2_with fail
  refine (split_any _ _ _).mono ?_
  rintro e w1 ⟨rfl, hb1⟩
  have hz : w.heap.size + 3 ≤ w1.heap.size := by have := hb1.size; simp at this; omega
  replace hb1 := hb1.mono (show w.heap.size + 3 ≤ _ by simp)
  go_wp2_with fail
  refine (downward_div a0 a1 d _ _ _ ?_ ?_ ?_ ?_ ?_ k1 k2 k3 k4 k5 k6).mono ?_
  · simp [World.cell?_alloc_new]
  · simp [World.cell?_alloc_new]
  · exact new_cell ((hb1.cell (p := ⟨_, _, none⟩) (by simp)).trans (by simp [go_sem])) (by omega)
  · simp
  · simp; omega
  rw [E.out.1, E.out.2.1, E.out.2.2]
  rintro e w2 ⟨rfl, hb2⟩
  have hb3 := hb1.trans (((Below.refl _ w1).alloc (by omega) _).trans (hb2.mono (by simp; omega)))
  have hz2 : w.heap.size + 3 ≤ w2.heap.size := by have := hb2.size; simp at this; omega
  clear hb1 hb2 hz
  go_wp2_with fail
  refine (join_any _ _ _).mono ?_
  rintro e w3 ⟨rfl, hb4⟩
  have hb5 := hb3.trans (((Below.refl _ w2).alloc (by omega) _).trans (hb4.mono (by simp; omega)))
  clear hb3 hb4
  obtain ⟨hc5, hf5⟩ := bcellB hb5
  go_wp2_with fail
  exact bodyPost_ret (v := .tuple #[.agg #[.int .u64 r1, .int .u64 r0], .int .u64 c, .int .i64 0]) (by simp [results, Tryz.results83, go_sem, hc5]) rfl ⟨rfl, ((((((Below.refl _ _).alloc (Nat.le_refl _) _).alloc (by simp) _).alloc (by simp <;> omega) _).trans (hb5.mono (by omega))).setCell (by simp <;> omega) _).setCell (by simp <;> omega) _⟩
end Go.Proofs.YtmaioofcmgaakaaGreatDoor
