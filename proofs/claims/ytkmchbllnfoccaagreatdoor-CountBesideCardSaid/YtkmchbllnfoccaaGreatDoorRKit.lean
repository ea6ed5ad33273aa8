/- Package ratio: what its functions lean on, in the form that their walks want. -/
import Derived.Test.YtkmchbllnfoccaaGreatDoorFit
namespace Go.Proofs.YtkmchbllnfoccaaGreatDoor
open Go.RowKit

theorem mul_p (a b p : Int) (w : World) (h1 : 0 ≤ a) (h2 : a < 18446744073709551616) (h3 : 0 ≤ b) (h4 : b < 18446744073709551616) (hp : a * b = p) :
    Calls Tryz.prog 94 #[.int .u64 a, .int .u64 b] w fun e w' => e = .returned (.agg #[.int .u64 (hi p), .int .u64 (lo p)]) ∧ Below w.heap.size w w' := by
  subst hp; exact mul_any a b w h1 h2 h3 h4
theorem cmp_hl (p q : Int) (w : World) :
    Calls Tryz.prog 107 #[.agg #[.int .u64 (hi p), .int .u64 (lo p)], .agg #[.int .u64 (hi q), .int .u64 (lo q)]] w fun e w' => e = .returned (.int .i64 (cmpI p q)) ∧ Below w.heap.size w w' := by
  have := cmp_any (hi p) (lo p) (hi q) (lo q) w (lo_bd p).1 (lo_bd p).2 (lo_bd q).1 (lo_bd q).2
  rwa [wn_hi_lo, wn_hi_lo] at this
theorem add_hl (p q : Int) (w : World) (p0 : 0 ≤ p) (p1 : p < top) (q0 : 0 ≤ q) (q1 : q < top) (h : p + q < top) :
    Calls Tryz.prog 93 #[.agg #[.int .u64 (hi p), .int .u64 (lo p)], .agg #[.int .u64 (hi q), .int .u64 (lo q)]] w fun e w' => e = .returned (.tuple #[.agg #[.int .u64 (hi (p + q)), .int .u64 (lo (p + q))], .int .i64 0]) ∧ Below w.heap.size w w' := by
  have a := hi_bd p p0 p1
  have b := hi_bd q q0 q1
  have := add_yes (hi p) (lo p) (hi q) (lo q) w (lo_bd p).1 (lo_bd p).2 a.1 a.2 (lo_bd q).1 (lo_bd q).2 b.1 b.2 (by rw [wn_hi_lo, wn_hi_lo]; exact h)
  rwa [wn_hi_lo, wn_hi_lo] at this
theorem div_hl (p d : Int) (w : World) (p0 : 0 ≤ p) (p1 : p < top) (d0 : 0 < d) (d1 : d < 18446744073709551616) :
    Calls Tryz.prog 95 #[.agg #[.int .u64 (hi p), .int .u64 (lo p)], .int .u64 d] w fun e w' => e = .returned (.tuple #[.agg #[.int .u64 (hi (p / d)), .int .u64 (lo (p / d))], .int .u64 (p % d), .int .i64 0]) ∧ Below w.heap.size w w' := by
  have a := hi_bd p p0 p1
  have b := lo_bd p
  have := div_yes (hi p) (lo p) d w b.1 b.2 a.1 a.2 d0 d1
  rwa [wn_hi_lo] at this
theorem lowest_below (n d : Int) (w : World) (n0 : 0 ≤ n) (n1 : n < 18446744073709551616) (d0 : 0 ≤ d) (d1 : d < 18446744073709551616) (hp : 0 < n ∨ 0 < d) :
    Calls Tryz.prog 88 #[.int .u64 n, .int .u64 d] w fun e w' => e = .returned (.tuple #[.int .u64 (mN n d), .int .u64 (mD n d)]) ∧ Below w.heap.size w w' :=
  (lowest_any n d w n0 n1 d0 d1 hp).mono fun _ _ h => ⟨h.1, by obtain ⟨k, hk⟩ := h.2; rw [hk]; exact drewN_below k⟩
theorem fit_any (nh nl dh dl n d : Int) (w : World) (k1 : 0 ≤ nl) (k2 : nl < 18446744073709551616) (k3 : 0 ≤ dl) (k4 : dl < 18446744073709551616) (hh : 0 ≤ nh) (hh2 : 0 ≤ dh) (hN : wn nh nl = mN n d) (hD : wn dh dl = mD n d) :
    Calls Tryz.prog 89 #[.agg #[.int .u64 nh, .int .u64 nl], .agg #[.int .u64 dh, .int .u64 dl]] w fun e w' => e = .returned (.tuple #[.agg #[.int .i64 (rN n d), .int .i64 (rD n d)], .int .i64 (rE n d)]) ∧ Below w.heap.size w w' := by
  by_cases h : fitB n d = true
  · have k := (fit_iff n d).1 h
    obtain ⟨a, b, c⟩ := r_yes h
    rw [a, b, c]
    exact fit_ok nh nl dh dl _ _ w k1 k2 k3 k4 hN hD hh hh2 k.1 k.2
  · obtain ⟨a, b, c⟩ := r_no h
    rw [a, b, c]
    by_cases h1 : mN n d ≤ 4611686018427387904
    · have h2 : 4611686018427387904 < mD n d := by
        by_cases h2 : mD n d ≤ 4611686018427387904
        · exact absurd ((fit_iff n d).2 ⟨h1, h2⟩) h
        · omega
      exact fit_over2 nh nl dh dl _ _ w k1 k2 k3 k4 hN hD h1 h2
    · exact fit_over1 nh nl dh dl _ _ w k1 k2 k3 k4 hN hD (by omega)
theorem fit_hl (p q n d : Int) (w : World) (p0 : 0 ≤ p) (q0 : 0 ≤ q) (hN : p = mN n d) (hD : q = mD n d) :
    Calls Tryz.prog 89 #[.agg #[.int .u64 (hi p), .int .u64 (lo p)], .agg #[.int .u64 (hi q), .int .u64 (lo q)]] w fun e w' => e = .returned (.tuple #[.agg #[.int .i64 (rN n d), .int .i64 (rD n d)], .int .i64 (rE n d)]) ∧ Below w.heap.size w w' :=
  fit_any (hi p) (lo p) (hi q) (lo q) n d w (lo_bd p).1 (lo_bd p).2 (lo_bd q).1 (lo_bd q).2 (by unfold hi; omega) (by unfold hi; omega) (by rw [wn_hi_lo]; exact hN) (by rw [wn_hi_lo]; exact hD)
end Go.Proofs.YtkmchbllnfoccaaGreatDoor
