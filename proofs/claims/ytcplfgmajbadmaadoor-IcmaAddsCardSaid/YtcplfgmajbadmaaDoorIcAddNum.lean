/- IcmaAdds: numbers. -/
import Derived.Test.YtcplfgmajbadmaaDoorIcSum
namespace Go.Proofs.YtcplfgmajbadmaaDoor
set_option linter.unusedVariables false
set_option linter.unusedSimpArgs false

/-- So many of the first n periods have days. -/
def cnt (X : Nat → Int) : Nat → Nat
  | 0 => 0
  | n + 1 => cnt X n + (if X n < X (n + 1) then 1 else 0)
theorem cnt_yes {X : Nat → Int} {n : Nat} (h : X n < X (n + 1)) : cnt X (n + 1) = cnt X n + 1 := by show cnt X n + _ = _; rw [if_pos h]
theorem cnt_no {X : Nat → Int} {n : Nat} (h : ¬ X n < X (n + 1)) : cnt X (n + 1) = cnt X n := by show cnt X n + _ = _; rw [if_neg h, Nat.add_zero]
theorem cnt_le (X : Nat → Int) : ∀ n, cnt X n ≤ n := by
  intro n
  induction n with
  | zero => exact Nat.le_refl _
  | succ n ih =>
    by_cases h : X n < X (n + 1)
    · rw [cnt_yes h]; omega
    · rw [cnt_no h]; omega
theorem pos_all (X : Nat → Int) (t : Int) : ∀ n, Rising X (n + 1) → X n ≤ t → pos X n t = ((cnt X n : Int) : Rat) := by
  intro n
  induction n with
  | zero => intro _ _; rfl
  | succ n ih =>
    intro hX ht
    have hle := hX.2 n (by omega)
    have e : pos X (n + 1) t = ((cnt X n : Int) : Rat) + tm (X n) (X (n + 1)) t := by
      show pos X n t + tm _ _ _ = _
      rw [ih (hX.less (by omega)) (by omega)]
    by_cases h : X n < X (n + 1)
    · rw [e, tm_past ht h, cnt_yes h]
      simp
    · rw [e, tm_none (by omega), cnt_no h, Rat.add_zero]
theorem pos_none (X : Nat → Int) (t : Int) (ht : t ≤ X 0) : ∀ n, Rising X (n + 1) → pos X n t = 0 := by
  intro n
  induction n with
  | zero => intro _; rfl
  | succ n ih =>
    intro hX
    have hle := hX.le (Nat.zero_le n) (by omega)
    show pos X n t + tm _ _ _ = _
    rw [ih (hX.less (by omega)), tm_ahead (by omega), Rat.add_zero]
theorem vP_all (X : Nat → Int) (n : Nat) (f : Int) (hX : Rising X (n + 1)) : vP X n f (X 0) (X n) = ((cnt X n : Int) : Rat) / (f : Rat) := by
  unfold vP
  rw [pos_all X (X n) n hX (Int.le_refl _), pos_none X (X 0) (Int.le_refl _) n hX]
  rw [Rat.sub_eq_add_neg, Rat.neg_zero, Rat.add_zero]
theorem vP_adds (X : Nat → Int) (n : Nat) (f a b c : Int) : vP X n f a b + vP X n f b c = vP X n f a c := by
  unfold vP
  rw [Rat.div_def, Rat.div_def, Rat.div_def]
  grind
theorem vP_same (X : Nat → Int) (n : Nat) (f a : Int) : vP X n f a a = 0 := by
  unfold vP
  rw [Rat.sub_self, Rat.div_def, Rat.zero_mul]
theorem rat_div_pos {x : Rat} {d : Int} (hx : 0 < x) (hd : 0 < d) : 0 < x / (d : Rat) := by
  rw [Rat.div_def]
  refine Rat.mul_pos hx (Rat.inv_pos.2 ?_)
  have : (0 : Rat) = ((0 : Int) : Rat) := rfl
  rw [this]
  exact Rat.intCast_lt_intCast.2 hd
theorem step_pos {a b x y : Int} (hab : a ≤ b) (hxy : x ≤ y) (h : 0 < dy a b x y) : 0 < tm x y b - tm x y a := by
  obtain ⟨k, _, e⟩ := dy_yes hab hxy h
  rw [e]
  refine rat_div_pos ?_ (by omega)
  have : (0 : Rat) = ((0 : Int) : Rat) := rfl
  rw [this]
  exact Rat.intCast_lt_intCast.2 h
theorem rat_add_pos_l {x y : Rat} (hx : 0 < x) (hy : 0 ≤ y) : 0 < x + y := by
  have h := Rat.add_le_add_left (a := 0) (b := y) (c := x) |>.2 hy
  rw [Rat.add_zero] at h
  exact Rat.not_le.1 (fun k => (Rat.not_le.2 hx) (Rat.le_trans h k))
theorem vP_pos (X : Nat → Int) (f a b : Int) (hf : 0 < f) (h0 : X 0 ≤ a) (hab : a < b) : ∀ n, Rising X (n + 1) → a < X n → 0 < vP X n f a b := by
  intro n
  induction n with
  | zero => intro _ h; omega
  | succ n ih =>
    intro hX h
    have hle := hX.2 n (by omega)
    have hX' := hX.less (m := n + 1) (by omega)
    rw [vP_step]
    by_cases c : a < X n
    · exact rat_add_pos_l (ih hX' c) (rat_div_nonneg (step_nonneg (Int.le_of_lt hab) hle) hf)
    · have hd : 0 < dy a b (X n) (X (n + 1)) := by unfold dy; omega
      rw [Rat.add_comm]
      exact rat_add_pos_l (rat_div_pos (step_pos (Int.le_of_lt hab) hle hd) hf) (vP_nonneg X f a b (Int.le_of_lt hab) hf n hX')
/-- No part is 0 but the one to the same day. -/
theorem vP_zero_iff (X : Nat → Int) (n : Nat) (f a b : Int) (hf : 0 < f) (h0 : X 0 ≤ a) (hab : a ≤ b) (hb : b ≤ X n) (hX : Rising X (n + 1)) : (vP X n f a b).num = 0 ↔ a = b := by
  rw [Rat.num_eq_zero]
  constructor
  · intro h
    by_cases c : a < b
    · have := vP_pos X f a b hf h0 c n hX (by omega)
      rw [h] at this
      exact absurd this Rat.lt_irrefl
    · omega
  · rintro rfl
    exact vP_same X n f a
theorem cnt_is (X : Nat → Int) (n : Nat) (f : Int) (hX : Rising X (n + 1)) (hn : n ≤ 1204) (hf : 1 ≤ f ∧ f ≤ 12) : rN (cnt X n) f = (vP X n f (X 0) (X n)).num ∧ rD (cnt X n) f = ((vP X n f (X 0) (X n)).den : Int) ∧ rE (cnt X n) f = 0 := by
  have hp := rat_parts (cnt X n) f (by omega)
  rw [vP_all X n f hX, ← hp.1, ← hp.2]
  have hc := cnt_le X n
  have := m_le (cnt X n) f (by omega) (by omega)
  exact r_yes ((fit_iff _ _).2 ⟨by omega, by omega⟩)
/-- All that is told of three days. -/
theorem adds_all (X : Nat → Int) (m : Nat) (f a b c : Int) (h : MayX X (m + 1) f) (h0 : X 0 ≤ a) (hab : a ≤ b) (hbc : b ≤ c) (hc : c ≤ X m) :
    ∃ p q r s t u, IcIs X (m + 1) f a b p q 0 ∧ IcIs X (m + 1) f b c r s 0 ∧ IcIs X (m + 1) f a c t u 0 ∧ rightB p q = true ∧ rightB r s = true ∧ (rN (p * s + r * q) (q * s) = t ∧ rD (p * s + r * q) (q * s) = u ∧ rE (p * s + r * q) (q * s) = 0) ∧ ((p == 0) = (a == b)) := by
  obtain ⟨k1, k2, k3, k4, k5⟩ := h
  have hh : MayX X (m + 1) f := ⟨k1, k2, k3, k4, k5⟩
  have r1 := vP_right X m f a b k4 (by omega) k3 hab
  have r2 := vP_right X m f b c k4 (by omega) k3 hbc
  have r3 := vP_right X m f a c k4 (by omega) k3 (by omega)
  have e := vP_adds X m f a b c
  have z := vP_zero_iff X m f a b (by omega) h0 hab (by omega) k4
  refine ⟨_, _, _, _, _, _, ic_ok hab hh h0 (show b ≤ X m by omega), ic_ok hbc hh (show X 0 ≤ b by omega) hc, ic_ok (show a ≤ c by omega) hh h0 hc, r1, r2, ?_, ?_⟩
  · have := add_is _ _ r1 r2 (by rw [e]; exact r3)
    rw [e] at this
    exact this
  · by_cases k : a = b
    · rw [beq_iff_eq.2 k]
      exact beq_iff_eq.2 (z.2 k)
    · rw [beq_eq_false_iff_ne.2 k]
      exact beq_eq_false_iff_ne.2 (fun y => k (z.1 y))
end Go.Proofs.YtcplfgmajbadmaaDoor
