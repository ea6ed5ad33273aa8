/- IcmaSplit: numbers. -/
import Derived.Test.YtcplfgmajbadmaaDoorIcSum
namespace Go.Proofs.YtcplfgmajbadmaaDoor
set_option linter.unusedVariables false
set_option linter.unusedSimpArgs false

/-- A day told twice. -/
def tw (X : Nat → Int) (k : Nat) : Nat → Int := fun i => if i ≤ k then X i else X (i - 1)
/-- A day more, ahead. -/
def ahd (X : Nat → Int) (y : Int) : Nat → Int := fun i => if i = 0 then y else X (i - 1)
/-- A day more, behind. -/
def bhd (X : Nat → Int) (m : Nat) (y : Int) : Nat → Int := fun i => if i ≤ m then X i else y
theorem tw_lo {X : Nat → Int} {k i : Nat} (h : i ≤ k) : tw X k i = X i := if_pos h
theorem tw_hi {X : Nat → Int} {k i : Nat} (h : k ≤ i) : tw X k (i + 1) = X i := by unfold tw; rw [if_neg (by omega)]; rfl
theorem ahd_zero (X : Nat → Int) (y : Int) : ahd X y 0 = y := rfl
theorem ahd_succ (X : Nat → Int) (y : Int) (i : Nat) : ahd X y (i + 1) = X i := by unfold ahd; rw [if_neg (by omega)]; rfl
theorem bhd_lo {X : Nat → Int} {m i : Nat} {y : Int} (h : i ≤ m) : bhd X m y i = X i := if_pos h
theorem bhd_hi (X : Nat → Int) (m : Nat) (y : Int) : bhd X m y (m + 1) = y := if_neg (by omega)

theorem pos_same {X Y : Nat → Int} {n : Nat} (h : ∀ i, i ≤ n → Y i = X i) (t : Int) : pos Y n t = pos X n t := by
  induction n with
  | zero => rfl
  | succ n ih =>
    show pos Y n t + tm (Y n) (Y (n + 1)) t = pos X n t + tm (X n) (X (n + 1)) t
    rw [ih (fun i hi => h i (by omega)), h n (by omega), h (n + 1) (by omega)]
theorem pos_tw (X : Nat → Int) (k : Nat) (t : Int) : ∀ j, k ≤ j → pos (tw X k) (j + 1) t = pos X j t := by
  intro j hj
  induction j with
  | zero =>
    obtain rfl : k = 0 := by omega
    show 0 + tm (tw X 0 0) (tw X 0 1) t = 0
    rw [tw_lo (Nat.le_refl 0), tw_hi (Nat.le_refl 0), tm_none (Int.le_refl _), Rat.add_zero]
  | succ j ih =>
    by_cases e : k = j + 1
    · subst e
      show pos (tw X (j + 1)) (j + 1) t + tm (tw X (j + 1) (j + 1)) (tw X (j + 1) (j + 2)) t = _
      rw [pos_same (X := X) (fun i hi => tw_lo hi), tw_lo (Nat.le_refl _), tw_hi (Nat.le_refl _), tm_none (Int.le_refl _), Rat.add_zero]
    · show pos (tw X k) (j + 1) t + tm (tw X k (j + 1)) (tw X k (j + 2)) t = pos X j t + tm (X j) (X (j + 1)) t
      rw [ih (by omega), tw_hi (by omega), tw_hi (by omega)]
theorem pos_ahd (X : Nat → Int) (y t : Int) : ∀ j, pos (ahd X y) (j + 1) t = tm y (X 0) t + pos X j t := by
  intro j
  induction j with
  | zero =>
    show 0 + tm (ahd X y 0) (ahd X y 1) t = tm y (X 0) t + 0
    rw [ahd_zero, ahd_succ, Rat.zero_add, Rat.add_zero]
  | succ j ih =>
    show pos (ahd X y) (j + 1) t + tm (ahd X y (j + 1)) (ahd X y (j + 2)) t = tm y (X 0) t + (pos X j t + tm (X j) (X (j + 1)) t)
    rw [ih, ahd_succ, ahd_succ, Rat.add_assoc]
theorem pos_bhd (X : Nat → Int) (m : Nat) (y t : Int) : pos (bhd X m y) (m + 1) t = pos X m t + tm (X m) y t := by
  show pos (bhd X m y) m t + tm (bhd X m y m) (bhd X m y (m + 1)) t = _
  rw [pos_same (X := X) (fun i hi => bhd_lo hi), bhd_lo (Nat.le_refl _), bhd_hi]

theorem may_tw {X : Nat → Int} {m k : Nat} {f : Int} (h : MayX X (m + 1) f) (hk : k ≤ m) (hm : m < 1000) : MayX (tw X k) (m + 2) f := by
  obtain ⟨k1, k2, k3, k4, k5⟩ := h
  rw [Nat.add_sub_cancel] at k5
  refine ⟨by omega, by omega, k3, ⟨fun i hi => ?_, fun i hi => ?_⟩, ?_⟩
  · by_cases c : i ≤ k
    · rw [tw_lo c]; exact k4.1 i (by omega)
    · obtain ⟨i', rfl⟩ : ∃ i', i = i' + 1 := ⟨i - 1, by omega⟩
      rw [tw_hi (by omega)]; exact k4.1 i' (by omega)
  · by_cases c : i + 1 ≤ k
    · rw [tw_lo c, tw_lo (by omega)]; exact k4.2 i (by omega)
    · rw [tw_hi (by omega)]
      by_cases d : i ≤ k
      · rw [tw_lo d]; exact Int.le_refl _
      · obtain ⟨i', rfl⟩ : ∃ i', i = i' + 1 := ⟨i - 1, by omega⟩
        rw [tw_hi (by omega)]; exact k4.2 i' (by omega)
  · rw [tw_lo (by omega), show m + 2 - 1 = m + 1 from rfl, tw_hi hk]; exact k5
theorem may_ahd {X : Nat → Int} {m : Nat} {f y : Int} (h : MayX X (m + 1) f) (hy : 1 ≤ y ∧ y ≤ X 0) (hm : m < 1000) : MayX (ahd X y) (m + 2) f := by
  obtain ⟨k1, k2, k3, k4, k5⟩ := h
  rw [Nat.add_sub_cancel] at k5
  have b0 := k4.1 0 (by omega)
  refine ⟨by omega, by omega, k3, ⟨fun i hi => ?_, fun i hi => ?_⟩, ?_⟩
  · match i, hi with
    | 0, _ => rw [ahd_zero]; omega
    | i + 1, hi => rw [ahd_succ]; exact k4.1 i (by omega)
  · match i, hi with
    | 0, _ => rw [ahd_zero, ahd_succ]; exact hy.2
    | i + 1, hi => rw [ahd_succ, ahd_succ]; exact k4.2 i (by omega)
  · rw [ahd_zero, show m + 2 - 1 = m + 1 from rfl, ahd_succ]; omega
theorem may_bhd {X : Nat → Int} {m : Nat} {f y : Int} (h : MayX X (m + 1) f) (hy : X m ≤ y ∧ y ≤ 3652059) (hm : m < 1000) : MayX (bhd X m y) (m + 2) f := by
  obtain ⟨k1, k2, k3, k4, k5⟩ := h
  rw [Nat.add_sub_cancel] at k5
  have b0 := k4.1 m (by omega)
  refine ⟨by omega, by omega, k3, ⟨fun i hi => ?_, fun i hi => ?_⟩, ?_⟩
  · by_cases c : i ≤ m
    · rw [bhd_lo c]; exact k4.1 i (by omega)
    · obtain rfl : i = m + 1 := by omega
      rw [bhd_hi]; omega
  · by_cases c : i + 1 ≤ m
    · rw [bhd_lo c, bhd_lo (by omega)]; exact k4.2 i (by omega)
    · obtain rfl : i = m := by omega
      rw [bhd_lo (Nat.le_refl _), bhd_hi]; exact hy.1
  · rw [bhd_lo (by omega), show m + 2 - 1 = m + 1 from rfl, bhd_hi]; omega
/-- All that is told of days more. -/
theorem split_all (X : Nat → Int) (m k : Nat) (f a b p q : Int) (h : MayX X (m + 1) f) (hk : k ≤ m) (hm : m < 1000) (h0 : X 0 ≤ a) (hab : a ≤ b) (hb : b ≤ X m) (hI : IcIs X (m + 1) f a b p q 0) :
    IcIs (tw X k) (m + 2) f a b p q 0 ∧ (∀ y, 1 ≤ y → y < X 0 → IcIs (ahd X y) (m + 2) f a b p q 0) ∧ (∀ y, X m < y → y ≤ 3652059 → IcIs (bhd X m y) (m + 2) f a b p q 0) := by
  have hpq : p = (vP X m f a b).num ∧ q = ((vP X m f a b).den : Int) := by
    rcases hI with ⟨_, _, _, e⟩ | ⟨_, _, _, _, e⟩ | ⟨_, _, _, _, _, e⟩ | ⟨_, _, _, hp, hq, _⟩
    · omega
    · omega
    · omega
    · rw [Nat.add_sub_cancel] at hp hq; exact ⟨hp, hq⟩
  obtain ⟨rfl, rfl⟩ := hpq
  have hle : X 0 ≤ X m := by omega
  refine ⟨?_, fun y y0 y1 => ?_, fun y y0 y1 => ?_⟩
  · have z := ic_ok (X := tw X k) (n := m + 2) (f := f) hab (may_tw h hk hm) (by rw [tw_lo (Nat.zero_le k)]; exact h0) (by rw [show m + 2 - 1 = m + 1 from rfl, tw_hi hk]; exact hb)
    have e : vP (tw X k) (m + 1) f a b = vP X m f a b := by unfold vP; rw [pos_tw X k a m hk, pos_tw X k b m hk]
    rw [show m + 2 - 1 = m + 1 from rfl, e] at z
    exact z
  · have z := ic_ok (X := ahd X y) (n := m + 2) (f := f) hab (may_ahd h ⟨y0, by omega⟩ hm) (by rw [ahd_zero]; omega) (by rw [show m + 2 - 1 = m + 1 from rfl, ahd_succ]; exact hb)
    have e : vP (ahd X y) (m + 1) f a b = vP X m f a b := by
      unfold vP
      rw [pos_ahd, pos_ahd, tm_past (t := b) (by omega) y1, tm_past (t := a) h0 y1]
      congr 1
      grind
    rw [show m + 2 - 1 = m + 1 from rfl, e] at z
    exact z
  · have z := ic_ok (X := bhd X m y) (n := m + 2) (f := f) hab (may_bhd h ⟨by omega, y1⟩ hm) (by rw [bhd_lo (Nat.zero_le m)]; exact h0) (by rw [show m + 2 - 1 = m + 1 from rfl, bhd_hi]; omega)
    have e : vP (bhd X m y) (m + 1) f a b = vP X m f a b := by
      unfold vP
      rw [pos_bhd, pos_bhd, tm_ahead (t := b) hb, tm_ahead (t := a) (by omega), Rat.add_zero, Rat.add_zero]
    rw [show m + 2 - 1 = m + 1 from rfl, e] at z
    exact z
end Go.Proofs.YtcplfgmajbadmaaDoor
