/- Parts of years: they add up, and grow. -/
import Derived.Test.YtkmjaoiehmddcaaDoorTyShown
import Derived.Test.YtkmjaoiehmddcaaDoorRefArith
import Derived.Test.YtkmjaoiehmddcaaDoorRefRight
namespace Go.Proofs.YtkmjaoiehmddcaaDoor
open Go.RowKit
set_option linter.unusedVariables false
set_option linter.unusedSimpArgs false

theorem refadd_is (an ad bn bd p q c : Int) (w : World) (ha : rightB an ad = true) (hb : rightB bn bd = true) (h : rN (an * bd + bn * ad) (ad * bd) = p ∧ rD (an * bd + bn * ad) (ad * bd) = q ∧ rE (an * bd + bn * ad) (ad * bd) = c) :
    Calls Tryd.prog 22 #[.agg #[.int .i64 an, .int .i64 ad], .agg #[.int .i64 bn, .int .i64 bd]] w fun e w' => e = .returned (.tuple #[.agg #[.int .i64 p, .int .i64 q], .int .i64 c]) ∧ Below w.heap.size w w' := by
  obtain ⟨rfl, rfl, rfl⟩ := h; exact refadd_any an ad bn bd w ha hb
theorem part_right (x : Int) (h0 : 0 ≤ x) (h1 : x ≤ 3700000) : rightB (rN x 360) (rD x 360) = true := by
  have f := fit_small x h0 h1
  have y := r_yes f
  rw [y.1, y.2.1]
  exact r_right h0 (by decide) f
theorem part_add (x y : Int) (x0 : 0 ≤ x) (x1 : x ≤ 3700000) (y0 : 0 ≤ y) (y1 : y ≤ 3700000) (s : x + y ≤ 3700000) :
    rN (rN x 360 * rD y 360 + rN y 360 * rD x 360) (rD x 360 * rD y 360) = rN (x + y) 360 ∧ rD (rN x 360 * rD y 360 + rN y 360 * rD x 360) (rD x 360 * rD y 360) = rD (x + y) 360 ∧ rE (rN x 360 * rD y 360 + rN y 360 * rD x 360) (rD x 360 * rD y 360) = 0 := by
  have a := r_yes (fit_small x x0 x1)
  have b := r_yes (fit_small y y0 y1)
  rw [a.1, a.2.1, b.1, b.2.1]
  have c1 := m_cross x 360
  have c2 := m_cross y 360
  have p1 := mD_pos x 360 (by decide)
  have p2 := mD_pos y 360 (by decide)
  have e : (mN x 360 * mD y 360 + mN y 360 * mD x 360) * 360 = (x + y) * (mD x 360 * mD y 360) := by grind
  have r := r_eq (Int.mul_pos p1 p2) (show (0 : Int) < 360 by decide) e
  exact ⟨r.1, r.2.1, r.2.2.trans (r_yes (fit_small (x + y) (by omega) s)).2.2⟩
/-- The first day isn't behind the second one: by year, month, and day of the month. -/
theorem nb_lex (y1 m1 d1 y2 m2 d2 : Int) (h1 : may y1 m1 d1) (h2 : may y2 m2 d2) (h : nb y1 m1 d1 ≤ nb y2 m2 d2) : 12 * y1 + m1 < 12 * y2 + m2 ∨ (y1 = y2 ∧ m1 = m2 ∧ d1 ≤ d2) := by
  have a := h1
  have b := h2
  obtain ⟨-, -, a3, a4, -, -⟩ := a
  obtain ⟨-, -, b3, b4, -, -⟩ := b
  by_cases c : 12 * y1 + m1 < 12 * y2 + m2
  · exact Or.inl c
  · by_cases k : y2 < y1 ∨ y2 = y1 ∧ (m2 < m1 ∨ m2 = m1 ∧ d2 < d1)
    · have := nb_lt _ _ _ _ _ _ h2 h1 k
      omega
    · exact Or.inr (by omega)
theorem cutD_bd (d : Int) (h1 : 1 ≤ d) (h2 : d ≤ 31) : 1 ≤ cutD d ∧ cutD d ≤ 30 := by unfold cutD; split <;> omega
theorem cutD_le (d e : Int) (h : d ≤ e) (he : e ≤ 31) : cutD d ≤ cutD e := by unfold cutD; split <;> split <;> omega
theorem fulD_bd (y m d : Int) (h : may y m d) : 1 ≤ fulD y m d ∧ fulD y m d ≤ 30 := by
  obtain ⟨-, -, -, -, h5, h6⟩ := h
  have := ln_le y m
  unfold fulD; split <;> omega
theorem fulD_le (y m d e : Int) (h : may y m e) (hd : d ≤ e) : fulD y m d ≤ fulD y m e := by
  obtain ⟨-, -, -, -, h5, h6⟩ := h
  have := ln_le y m
  unfold fulD; split <;> split <;> omega
theorem isB_no (y m d : Int) : isB false y m d = fulD y m d := by unfold isB fulD; simp
theorem px_add (y1 m1 e1 y2 m2 e2 y3 m3 e3 : Int) (h12 : 0 ≤ 360 * (y2 - y1) + 30 * (m2 - m1) + (e2 - e1)) (h23 : 0 ≤ 360 * (y3 - y2) + 30 * (m3 - m2) + (e3 - e2)) :
    px y1 m1 e1 y2 m2 e2 + px y2 m2 e2 y3 m3 e3 = px y1 m1 e1 y3 m3 e3 := by unfold px; rw [if_neg (by omega), if_neg (by omega), if_neg (by omega)]; omega
theorem eX_raw (y1 m1 d1 y2 m2 d2 : Int) (h1 : may y1 m1 d1) (h2 : may y2 m2 d2) (h : nb y1 m1 d1 ≤ nb y2 m2 d2) : 0 ≤ 360 * (y2 - y1) + 30 * (m2 - m1) + (cutD d2 - cutD d1) := by
  have l1 := ln_le y1 m1
  have l2 := ln_le y2 m2
  have k := nb_lex _ _ _ _ _ _ h1 h2 h
  obtain ⟨-, -, -, -, a5, a6⟩ := h1
  obtain ⟨-, -, -, -, b5, b6⟩ := h2
  have c1 := cutD_bd d1 a5 (by omega)
  have c2 := cutD_bd d2 b5 (by omega)
  rcases k with k | ⟨rfl, rfl, k⟩
  · omega
  · have := cutD_le d1 d2 k (by omega)
    omega
theorem iX_raw (y1 m1 d1 y2 m2 d2 : Int) (h1 : may y1 m1 d1) (h2 : may y2 m2 d2) (h : nb y1 m1 d1 ≤ nb y2 m2 d2) : 0 ≤ 360 * (y2 - y1) + 30 * (m2 - m1) + (fulD y2 m2 d2 - fulD y1 m1 d1) := by
  have k := nb_lex _ _ _ _ _ _ h1 h2 h
  have c1 := fulD_bd y1 m1 d1 h1
  have c2 := fulD_bd y2 m2 d2 h2
  rcases k with k | ⟨rfl, rfl, k⟩
  · omega
  · have := fulD_le y1 m1 d1 d2 h2 k
    omega
theorem px_most (y1 m1 d1 y2 m2 d2 e1 e2 : Int) (h1 : may y1 m1 d1) (h2 : may y2 m2 d2) (a : 0 ≤ e1 ∧ e1 ≤ 31) (b : 0 ≤ e2 ∧ e2 ≤ 31) : 0 ≤ px y1 m1 e1 y2 m2 e2 ∧ px y1 m1 e1 y2 m2 e2 ≤ 3700000 := by
  obtain ⟨a1, a2, a3, a4, -, -⟩ := h1
  obtain ⟨b1, b2, b3, b4, -, -⟩ := h2
  exact px_bd _ _ _ _ _ _ a1 a2 b1 b2 a3 a4 b3 b4 a.1 a.2 b.1 b.2
end Go.Proofs.YtkmjaoiehmddcaaDoor
