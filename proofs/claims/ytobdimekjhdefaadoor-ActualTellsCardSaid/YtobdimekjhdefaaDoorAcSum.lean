/- Parts of years by the days that are: they add up; a day more; 400 years on; a year's days. No program in this text but for the names of fractions. -/
import Derived.Test.YtobdimekjhdefaaDoorAcBy
import Derived.Test.YtobdimekjhdefaaDoorMoEraNum
namespace Go.Proofs.YtobdimekjhdefaaDoor
open Go.RowKit
set_option linter.unusedVariables false
set_option linter.unusedSimpArgs false

/-- A day's place among the days of a year tells how many days ahead of it are in leap years. -/
theorem lv_at (y j y' m' d' : Int) (h : may y' m' d') (hn : nb y' m' d' = ah y + j) (h1 : 1 ≤ j) (h2 : j ≤ yl y + 1) :
    lv y' m' d' = 366 * ly y + if lp y = true then j - 1 else 0 := by
  have a := in_year y' m' d' h
  have b : nb y' m' d' = ah y' + am y' m' + d' := rfl
  have s := ah_step y
  have ls := ly_step y
  by_cases k : y' < y
  · have := ah_lt y' y k; omega
  by_cases k2 : y' = y
  · subst k2
    have e : j = am y' m' + d' := by omega
    rw [e]; rfl
  · by_cases k3 : y + 1 < y'
    · have := ah_lt (y + 1) y' k3
      have := yl_bd (y + 1)
      omega
    · obtain rfl : y' = y + 1 := by omega
      have e : am (y + 1) m' + d' = 1 := by omega
      have hj : j = yl y + 1 := by omega
      unfold lv
      rw [ls, hj]
      unfold yl
      split <;> split <;> omega
theorem yX_next (y1 m1 d1 y m d y' m' d' : Int) (h : may y m d) (h' : may y' m' d') (hn : nb y' m' d' = nb y m d + 1) :
    yX y1 m1 d1 y' m' d' = yX y1 m1 d1 y m d + if lp y = true then 365 else 366 := by
  have a := in_year y m d h
  have b : nb y m d = ah y + am y m + d := rfl
  have e1 := lv_at y (am y m + d) y m d h (by omega) a.1 (by omega)
  have e2 := lv_at y (am y m + d + 1) y' m' d' h' (by omega) (by omega) (by omega)
  unfold yX inX
  rw [hn, e1, e2]
  split <;> omega
theorem yX_add (y1 m1 d1 y2 m2 d2 y3 m3 d3 : Int) : yX y1 m1 d1 y2 m2 d2 + yX y2 m2 d2 y3 m3 d3 = yX y1 m1 d1 y3 m3 d3 := by unfold yX inX; omega
theorem yX_bd (y1 m1 d1 y2 m2 d2 : Int) (h1 : may y1 m1 d1) (h2 : may y2 m2 d2) (h : nb y1 m1 d1 ≤ nb y2 m2 d2) :
    365 * (nb y2 m2 d2 - nb y1 m1 d1) ≤ yX y1 m1 d1 y2 m2 d2 ∧ yX y1 m1 d1 y2 m2 d2 ≤ 366 * (nb y2 m2 d2 - nb y1 m1 d1) ∧ 366 * (nb y2 m2 d2 - nb y1 m1 d1) ≤ 1400000000 := by
  have le := lv_le _ _ _ _ _ _ h1 h2 h
  have a := nb_bd _ _ _ h1
  have b := nb_bd _ _ _ h2
  unfold yX inX
  omega
theorem lv_era (y m d : Int) : lv (y + 400) m d = lv y m d + 366 * 97 := by
  have e : ly (y + 400) = ly y + 97 := by unfold ly; omega
  have f : am (y + 400) m = am y m := by unfold am; rw [lp_add]
  unfold lv
  rw [e, f, lp_add]
  split <;> omega
theorem yX_era (y1 m1 d1 y2 m2 d2 : Int) : yX (y1 + 400) m1 d1 (y2 + 400) m2 d2 = yX y1 m1 d1 y2 m2 d2 := by
  unfold yX inX; rw [lv_era, lv_era, nb_era, nb_era]; omega
theorem ac_right (x k : Int) (h0 : 0 ≤ x) (h1 : x ≤ 4000000000) (k0 : 0 < k) (k1 : k ≤ 200000) : rightB (rN x k) (rD x k) = true := by
  have f := fit_den x k h0 h1 k0 k1
  have y := r_yes f
  rw [y.1, y.2.1]
  exact r_right h0 k0 f
theorem ac_add (x y k : Int) (x0 : 0 ≤ x) (y0 : 0 ≤ y) (s : x + y ≤ 4000000000) (k0 : 0 < k) (k1 : k ≤ 200000) :
    rN (rN x k * rD y k + rN y k * rD x k) (rD x k * rD y k) = rN (x + y) k ∧ rD (rN x k * rD y k + rN y k * rD x k) (rD x k * rD y k) = rD (x + y) k ∧ rE (rN x k * rD y k + rN y k * rD x k) (rD x k * rD y k) = 0 := by
  have a := r_yes (fit_den x k x0 (by omega) k0 k1)
  have b := r_yes (fit_den y k y0 (by omega) k0 k1)
  rw [a.1, a.2.1, b.1, b.2.1]
  have c1 := m_cross x k
  have c2 := m_cross y k
  have p1 := mD_pos x k k0
  have p2 := mD_pos y k k0
  have e : (mN x k * mD y k + mN y k * mD x k) * k = (x + y) * (mD x k * mD y k) := by grind
  have r := r_eq (Int.mul_pos p1 p2) k0 e
  exact ⟨r.1, r.2.1, r.2.2.trans (r_yes (fit_den (x + y) k (by omega) s k0 k1)).2.2⟩
/-- A part that is increased by one of n. -/
theorem ac_one (x k n e : Int) (x0 : 0 ≤ x) (s : x + e ≤ 4000000000) (k0 : 0 < k) (k1 : k ≤ 200000) (n0 : 0 < n) (e0 : 0 ≤ e) (h : e * n = k) :
    rN (rN x k * n + 1 * rD x k) (rD x k * n) = rN (x + e) k ∧ rD (rN x k * n + 1 * rD x k) (rD x k * n) = rD (x + e) k ∧ rE (rN x k * n + 1 * rD x k) (rD x k * n) = 0 := by
  have a := r_yes (fit_den x k x0 (by omega) k0 k1)
  rw [a.1, a.2.1]
  have c1 := m_cross x k
  have p1 := mD_pos x k k0
  have e : (mN x k * n + 1 * mD x k) * k = (x + e) * (mD x k * n) := by grind
  have r := r_eq (Int.mul_pos p1 n0) k0 e
  exact ⟨r.1, r.2.1, r.2.2.trans (r_yes (fit_den (x + _) k (by omega) s k0 k1)).2.2⟩
theorem ac_is (X : Int → Int → Int → Int → Int → Int → Int) (k a b : Int) : ∃ p q c, AcIs X k a b p q c := by
  by_cases h : (a < 1 ∨ 3652059 < a) ∨ (b < 1 ∨ 3652059 < b)
  · exact ⟨0, 0, 3, Or.inr (Or.inl ⟨h, rfl, rfl, rfl⟩)⟩
  · by_cases h2 : b < a
    · exact ⟨0, 0, 4, Or.inr (Or.inr ⟨by omega, by omega, h2, rfl, rfl, rfl⟩)⟩
    · obtain ⟨y1, m1, d1, a1, a2⟩ := day_of a (by omega) (by omega)
      obtain ⟨y2, m2, d2, b1, b2⟩ := day_of b (by omega) (by omega)
      exact ⟨_, _, 0, Or.inl ⟨y1, m1, d1, y2, m2, d2, a1, a2, b1, b2, by omega, rfl, rfl, rfl⟩⟩
theorem ac_days (a b k : Int) (h1 : 1 ≤ a ∧ a ≤ 3652059) (h2 : 1 ≤ b ∧ b ≤ 3652059) (h : a ≤ b) : AcIs aX k a b (rN (b - a) k) (rD (b - a) k) 0 := by
  obtain ⟨y1, m1, d1, a1, a2⟩ := day_of a h1.1 h1.2
  obtain ⟨y2, m2, d2, b1, b2⟩ := day_of b h2.1 h2.2
  exact Or.inl ⟨y1, m1, d1, y2, m2, d2, a1, a2, b1, b2, h, by unfold aX; rw [a2, b2], by unfold aX; rw [a2, b2], rfl⟩
theorem ac_years {a b : Int} (y1 m1 d1 y2 m2 d2 x : Int) (h1 : may y1 m1 d1) (ha : nb y1 m1 d1 = a) (h2 : may y2 m2 d2) (hb : nb y2 m2 d2 = b) (h : a ≤ b) (hx : yX y1 m1 d1 y2 m2 d2 = x) : AcIs yX 133590 a b (rN x 133590) (rD x 133590) 0 :=
  Or.inl ⟨y1, m1, d1, y2, m2, d2, h1, ha, h2, hb, h, by rw [hx], by rw [hx], rfl⟩
theorem ac_in {X : Int → Int → Int → Int → Int → Int → Int} {k a b p q : Int} (y1 m1 d1 y2 m2 d2 : Int) (h1 : may y1 m1 d1) (ha : nb y1 m1 d1 = a) (h2 : may y2 m2 d2) (hb : nb y2 m2 d2 = b) (h : a ≤ b) (hp : rN (X y1 m1 d1 y2 m2 d2) k = p) (hq : rD (X y1 m1 d1 y2 m2 d2) k = q) : AcIs X k a b p q 0 :=
  Or.inl ⟨y1, m1, d1, y2, m2, d2, h1, ha, h2, hb, h, hp, hq, rfl⟩
theorem ac_out {X : Int → Int → Int → Int → Int → Int → Int} {k a b : Int} (h : (a < 1 ∨ 3652059 < a) ∨ (b < 1 ∨ 3652059 < b)) : AcIs X k a b 0 0 3 := Or.inr (Or.inl ⟨h, rfl, rfl, rfl⟩)
theorem ac_order {X : Int → Int → Int → Int → Int → Int → Int} {k a b : Int} (h1 : 1 ≤ a ∧ a ≤ 3652059) (h2 : 1 ≤ b ∧ b ≤ 3652059) (h : b < a) : AcIs X k a b 0 0 4 := Or.inr (Or.inr ⟨h1, h2, h, rfl, rfl, rfl⟩)
end Go.Proofs.YtobdimekjhdefaaDoor
