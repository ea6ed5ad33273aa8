/- IcmaScales: numbers. -/
import Derived.Test.YtcplfgmajbadmaaDoorIcSum
namespace Go.Proofs.YtcplfgmajbadmaaDoor
set_option linter.unusedVariables false
set_option linter.unusedSimpArgs false

/-- Of twice as many periods a year each part is half. -/
theorem vP_half (X : Nat → Int) (n : Nat) (k a b : Int) (hk : 1 ≤ k) : vP X n (2 * k) a b = vP X n k a b * (((1 : Int) : Rat) / ((2 : Int) : Rat)) := by
  unfold vP
  have c1 := cast_ne (d := k) (by omega)
  have c2 := cast_ne (d := 2) (by omega)
  rw [Rat.intCast_mul]
  generalize pos X n b - pos X n a = D
  show D / (((2 : Int) : Rat) * (k : Rat)) = D / (k : Rat) * (((1 : Int) : Rat) / ((2 : Int) : Rat))
  rw [Rat.intCast_one]
  generalize ((2 : Int) : Rat) = T at *
  grind
theorem half_is : (((1 : Int) : Rat) / ((2 : Int) : Rat)).num = 1 ∧ ((((1 : Int) : Rat) / ((2 : Int) : Rat)).den : Int) = 2 := by decide +kernel
theorem tm_shift (x y t s : Int) : tm (x + s) (y + s) (t + s) = tm x y t := by
  unfold tm
  by_cases h : x < y
  · rw [if_pos h, if_pos (by omega)]
    have e1 : min (max (t + s) (x + s)) (y + s) - (x + s) = min (max t x) y - x := by omega
    have e2 : y + s - (x + s) = y - x := by omega
    rw [e1, e2]
  · rw [if_neg h, if_neg (by omega)]
theorem pos_shift (X : Nat → Int) (t s : Int) : ∀ n, pos (fun i => X i + s) n (t + s) = pos X n t := by
  intro n
  induction n with
  | zero => rfl
  | succ n ih =>
    show pos (fun i => X i + s) n (t + s) + tm (X n + s) (X (n + 1) + s) (t + s) = pos X n t + tm (X n) (X (n + 1)) t
    rw [ih, tm_shift]
theorem vP_shift (X : Nat → Int) (n : Nat) (f a b s : Int) : vP (fun i => X i + s) n f (a + s) (b + s) = vP X n f a b := by
  unfold vP
  rw [pos_shift, pos_shift]
theorem may_shift {X : Nat → Int} {n : Nat} {f s : Int} (h : MayX X n f) (h0 : 0 ≤ s) (hs : X (n - 1) + s ≤ 3652059) : MayX (fun i => X i + s) n f := by
  obtain ⟨k1, k2, k3, k4, k5⟩ := h
  refine ⟨k1, k2, k3, ⟨fun i hi => ?_, fun i hi => ?_⟩, ?_⟩
  · have := k4.1 i hi
    have := k4.le (i := i) (j := n - 1) (by omega) (by omega)
    dsimp only
    omega
  · have := k4.2 i hi
    dsimp only
    omega
  · dsimp only
    omega
/-- All that is told of twice as many periods, and of days told later. -/
theorem scales_all (X : Nat → Int) (m : Nat) (k a b : Int) (h : MayX X (m + 1) k) (hk : k ≤ 6) (h0 : X 0 ≤ a) (hab : a ≤ b) (hb : b ≤ X m) :
    ∃ p q s t, IcIs X (m + 1) k a b p q 0 ∧ IcIs X (m + 1) (2 * k) a b s t 0 ∧ rightB p q = true ∧ (rN (p * 1) (q * 2) = s ∧ rD (p * 1) (q * 2) = t ∧ rE (p * 1) (q * 2) = 0) ∧
      ∀ u, 0 ≤ u → X m + u ≤ 3652059 → IcIs (fun i => X i + u) (m + 1) k (a + u) (b + u) p q 0 := by
  have hh := h
  obtain ⟨k1, k2, k3, k4, k5⟩ := h
  have h2 : MayX X (m + 1) (2 * k) := ⟨k1, k2, by omega, k4, k5⟩
  have r1 := vP_right X m k a b k4 (by omega) k3 hab
  have r2 := vP_right X m (2 * k) a b k4 (by omega) (by omega) hab
  have e := vP_half X m k a b (by omega)
  refine ⟨_, _, _, _, ic_ok hab hh h0 hb, ic_ok hab h2 h0 hb, r1, ?_, fun u u0 u1 => ?_⟩
  · have := mul_is (vP X m k a b) (((1 : Int) : Rat) / ((2 : Int) : Rat)) r1 (by rw [half_is.1, half_is.2]; decide +kernel) (by rw [← e]; exact r2)
    rw [half_is.1, half_is.2, ← e] at this
    exact this
  · have z := ic_ok (X := fun i => X i + u) (n := m + 1) (f := k) (a := a + u) (b := b + u) (by omega) (may_shift hh u0 u1) (show X 0 + u ≤ a + u by omega) (show b + u ≤ X m + u by omega)
    rw [Nat.add_sub_cancel, vP_shift] at z
    exact z
end Go.Proofs.YtcplfgmajbadmaaDoor
