/- Package wide: Times, Add, Sub: exact, or told as too great, for every numbers. -/
import Derived.Test.YtcpifgoglcoeeaaWideA
namespace Go.Proofs.Ytcpifgoglcoeeaa
open Go.RowKit

theorem bcellB {B : Nat} {W w1 : World} (hb : Below B W w1) : (∀ b o, b < B → w1.cell? ⟨b, o, none⟩ = W.cell? ⟨b, o, none⟩) ∧ (∀ b o, b < B → w1.frozen? ⟨b, o, none⟩ = W.frozen? ⟨b, o, none⟩) :=
  ⟨fun b o h => hb.cell (p := ⟨b, o, none⟩) h, fun b o h => hb.frozen (p := ⟨b, o, none⟩) h⟩

set_option maxHeartbeats 400000 in
theorem times_yes (a1 a0 n : Int) (w : World) (k1 : 0 ≤ a0) (k2 : a0 < 18446744073709551616) (k3 : 0 ≤ a1) (k4 : a1 < 18446744073709551616) (k5 : 0 ≤ n) (k6 : n < 18446744073709551616)
    (h : wn a1 a0 * n < top) :
    Calls Try.prog 14 #[.agg #[.int .u64 a1, .int .u64 a0], .int .u64 n] w fun e w' => e = .returned (.tuple #[.agg #[.int .u64 (hi (wn a1 a0 * n)), .int .u64 (lo (wn a1 a0 * n))], .int .i64 0]) ∧ Below w.heap.size w w' := by
  have hmf : ∀ (fn : Fn) (first cap : Array Value) (w : World), (Instr.makeFunc fn first cap).run Try.prog w = .ok (.func fn first cap) w := fun _ _ _ _ => rfl
  have h0 : 0 ≤ wn a1 a0 * n := Int.mul_nonneg (wn_bd a1 a0 k3 k4 k1 k2).1 k5
  have E0 := Lib.hid (times_lo a1 a0 n)
  have E1 := Lib.hid (times_hi a1 a0 n h0 h)
  have E2 := Lib.hid (times_fits a1 a0 n h0 h)
  clear h h0
  generalize hi (wn a1 a0 * n) = r1 at *
  generalize lo (wn a1 a0 * n) = r0 at *
  go_enter Try.func14, Try.ntmps14
  go_wp2_with fail
  refine (split_any _ _ _).mono ?_
  rintro e w1 ⟨rfl, hb1⟩
  have hz : w.heap.size + 3 ≤ w1.heap.size := by have := hb1.size; simp at this; omega
  replace hb1 := hb1.mono (show w.heap.size + 3 ≤ _ by simp)
  go_wp2_with fail
  refine (upward_times a0 a1 n _ _ _ ?_ ?_ ?_ ?_ ?_ k1 k2 k3 k4 k5 k6).mono ?_
  · simp [World.cell?_alloc_new]
  · simp [World.cell?_alloc_new]
  · exact new_cell ((hb1.cell (p := ⟨_, _, none⟩) (by simp)).trans (by simp [go_sem])) (by omega)
  · simp
  · simp; omega
  rw [E0.out, E1.out, E2.out]
  rintro e w2 ⟨rfl, hb2⟩
  have hb3 := hb1.trans (((Below.refl _ w1).alloc (by omega) _).trans (hb2.mono (by simp; omega)))
  have hz2 : w.heap.size + 3 ≤ w2.heap.size := by have := hb2.size; simp at this; omega
  clear hb1 hb2 hz
  go_wp2_with fail
  refine (fit_yes r1 r0 _).mono ?_
  rintro e w3 ⟨rfl, hb4⟩
  have hb5 := hb3.trans (hb4.mono hz2)
  clear hb3 hb4
  obtain ⟨hc5, hf5⟩ := bcellB hb5
  go_wp2_with fail
  exact bodyPost_ret (v := .tuple #[.agg #[.int .u64 r1, .int .u64 r0], .int .i64 0]) (by simp [results, Try.results14, go_sem, hc5]) rfl ⟨rfl, ((((((Below.refl _ _).alloc (Nat.le_refl _) _).alloc (by simp) _).alloc (by simp <;> omega) _).trans (hb5.mono (by omega))).setCell (by simp <;> omega) _).setCell (by simp <;> omega) _⟩

set_option maxHeartbeats 400000 in
theorem times_no (a1 a0 n : Int) (w : World) (k1 : 0 ≤ a0) (k2 : a0 < 18446744073709551616) (k3 : 0 ≤ a1) (k4 : a1 < 18446744073709551616) (k5 : 0 ≤ n) (k6 : n < 18446744073709551616)
    (h : top ≤ wn a1 a0 * n) :
    Calls Try.prog 14 #[.agg #[.int .u64 a1, .int .u64 a0], .int .u64 n] w fun e w' => e = .returned (.tuple #[.agg #[.int .u64 0, .int .u64 0], .int .i64 6]) ∧ Below w.heap.size w w' := by
  have hmf : ∀ (fn : Fn) (first cap : Array Value) (w : World), (Instr.makeFunc fn first cap).run Try.prog w = .ok (.func fn first cap) w := fun _ _ _ _ => rfl
  have hc := times_over a1 a0 n h
  clear h
  obtain ⟨r0, E0⟩ : ∃ r, Hid ((a0 * n + 0) % 18446744073709551616 = r) := ⟨_, Lib.hid rfl⟩
  obtain ⟨r1, E1⟩ : ∃ r, Hid ((a1 * n + (a0 * n + 0) / 18446744073709551616) % 18446744073709551616 = r) := ⟨_, Lib.hid rfl⟩
  obtain ⟨c, E2⟩ : ∃ r, Hid ((a1 * n + (a0 * n + 0) / 18446744073709551616) / 18446744073709551616 = r) := ⟨_, Lib.hid rfl⟩
  rw [E2.out] at hc
  go_enter Try.func14, Try.ntmps14
  go_wp2_with fail
  refine (split_any _ _ _).mono ?_
  rintro e w1 ⟨rfl, hb1⟩
  have hz : w.heap.size + 3 ≤ w1.heap.size := by have := hb1.size; simp at this; omega
  replace hb1 := hb1.mono (show w.heap.size + 3 ≤ _ by simp)
  go_wp2_with fail
  refine (upward_times a0 a1 n _ _ _ ?_ ?_ ?_ ?_ ?_ k1 k2 k3 k4 k5 k6).mono ?_
  · simp [World.cell?_alloc_new]
  · simp [World.cell?_alloc_new]
  · exact new_cell ((hb1.cell (p := ⟨_, _, none⟩) (by simp)).trans (by simp [go_sem])) (by omega)
  · simp
  · simp; omega
  rw [E0.out, E1.out, E2.out]
  rintro e w2 ⟨rfl, hb2⟩
  have hb3 := hb1.trans (((Below.refl _ w1).alloc (by omega) _).trans (hb2.mono (by simp; omega)))
  have hz2 : w.heap.size + 3 ≤ w2.heap.size := by have := hb2.size; simp at this; omega
  clear hb1 hb2 hz
  go_wp2_with fail
  refine (fit_no r1 r0 c hc _).mono ?_
  rintro e w3 ⟨rfl, hb4⟩
  have hb5 := hb3.trans (hb4.mono hz2)
  clear hb3 hb4
  obtain ⟨hc5, hf5⟩ := bcellB hb5
  go_wp2_with fail
  exact bodyPost_ret (v := .tuple #[.agg #[.int .u64 0, .int .u64 0], .int .i64 6]) (by simp [results, Try.results14, go_sem, hc5]) rfl ⟨rfl, ((((((Below.refl _ _).alloc (Nat.le_refl _) _).alloc (by simp) _).alloc (by simp <;> omega) _).trans (hb5.mono (by omega))).setCell (by simp <;> omega) _).setCell (by simp <;> omega) _⟩
end Go.Proofs.Ytcpifgoglcoeeaa
