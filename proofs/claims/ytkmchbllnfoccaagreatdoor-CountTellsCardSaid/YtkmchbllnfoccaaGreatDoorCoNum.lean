/- Layer 10 in plain numbers: what each way tells of two days; from a day to itself; sums; how far off from days by a year of 360. No program in this text but for the names of fractions. -/
import Derived.Test.YtkmchbllnfoccaaGreatDoorGTy
import Derived.Test.YtkmchbllnfoccaaGreatDoorGAc
import Derived.Test.YtkmchbllnfoccaaGreatDoorGIc
namespace Go.Proofs.YtkmchbllnfoccaaGreatDoor
open Go.RowKit
set_option linter.unusedVariables false
set_option linter.unusedSimpArgs false

/-- What Part tells: the way k, the days a and b, and what is told beside: ends that stay (t), the last day (en), periods a year (f), the periods' days (X, n). -/
def CoIs (k a b : Int) (t : Bool) (en f : Int) (X : Nat → Int) (n : Nat) (p q c : Int) : Prop :=
  (k = 0 ∧ PartIs (uX t) a b p q c) ∨ (k = 1 ∧ PartIs eX a b p q c) ∨ (k = 2 ∧ PartIs (iX (decide (b = en))) a b p q c) ∨ (k = 3 ∧ AcIs aX 360 a b p q c) ∨ (k = 4 ∧ AcIs aX 365 a b p q c) ∨
  (k = 5 ∧ AcIs yX 133590 a b p q c) ∨ (k = 6 ∧ IcIs X n f a b p q c) ∨ ((k < 0 ∨ 6 < k) ∧ p = 0 ∧ q = 0 ∧ c = 1)
theorem co_is (k a b : Int) (t : Bool) (en f : Int) (X : Nat → Int) (n : Nat) : ∃ p q c, CoIs k a b t en f X n p q c := by
  by_cases h : k < 0 ∨ 6 < k
  · exact ⟨0, 0, 1, Or.inr (Or.inr (Or.inr (Or.inr (Or.inr (Or.inr (Or.inr ⟨h, rfl, rfl, rfl⟩))))))⟩
  · have : k = 0 ∨ k = 1 ∨ k = 2 ∨ k = 3 ∨ k = 4 ∨ k = 5 ∨ k = 6 := by omega
    rcases this with e | e | e | e | e | e | e
    · obtain ⟨p, q, c, h⟩ := part_is (uX t) a b; exact ⟨p, q, c, Or.inl ⟨e, h⟩⟩
    · obtain ⟨p, q, c, h⟩ := part_is eX a b; exact ⟨p, q, c, Or.inr (Or.inl ⟨e, h⟩)⟩
    · obtain ⟨p, q, c, h⟩ := part_is (iX (decide (b = en))) a b; exact ⟨p, q, c, Or.inr (Or.inr (Or.inl ⟨e, h⟩))⟩
    · obtain ⟨p, q, c, h⟩ := ac_is aX 360 a b; exact ⟨p, q, c, Or.inr (Or.inr (Or.inr (Or.inl ⟨e, h⟩)))⟩
    · obtain ⟨p, q, c, h⟩ := ac_is aX 365 a b; exact ⟨p, q, c, Or.inr (Or.inr (Or.inr (Or.inr (Or.inl ⟨e, h⟩))))⟩
    · obtain ⟨p, q, c, h⟩ := ac_is yX 133590 a b; exact ⟨p, q, c, Or.inr (Or.inr (Or.inr (Or.inr (Or.inr (Or.inl ⟨e, h⟩)))))⟩
    · obtain ⟨p, q, c, h⟩ := ic_is X n f a b; exact ⟨p, q, c, Or.inr (Or.inr (Or.inr (Or.inr (Or.inr (Or.inr (Or.inl ⟨e, h⟩))))))⟩
/-- What a way isn't told beside turns nothing. -/
theorem co_beside {k a b : Int} {t t' : Bool} {en en' f f' : Int} {X X' : Nat → Int} {n n' : Nat} {p q c : Int} (h : CoIs k a b t en f X n p q c)
    (h0 : k = 0 → t' = t) (h2 : k = 2 → en' = en) (h6 : k = 6 → f' = f ∧ X' = X ∧ n' = n) : CoIs k a b t' en' f' X' n' p q c := by
  rcases h with ⟨e, h⟩ | ⟨e, h⟩ | ⟨e, h⟩ | ⟨e, h⟩ | ⟨e, h⟩ | ⟨e, h⟩ | ⟨e, h⟩ | h
  · rw [h0 e]; exact Or.inl ⟨e, h⟩
  · exact Or.inr (Or.inl ⟨e, h⟩)
  · rw [h2 e]; exact Or.inr (Or.inr (Or.inl ⟨e, h⟩))
  · exact Or.inr (Or.inr (Or.inr (Or.inl ⟨e, h⟩)))
  · exact Or.inr (Or.inr (Or.inr (Or.inr (Or.inl ⟨e, h⟩))))
  · exact Or.inr (Or.inr (Or.inr (Or.inr (Or.inr (Or.inl ⟨e, h⟩)))))
  · obtain ⟨rfl, rfl, rfl⟩ := h6 e; exact Or.inr (Or.inr (Or.inr (Or.inr (Or.inr (Or.inr (Or.inl ⟨e, h⟩))))))
  · exact Or.inr (Or.inr (Or.inr (Or.inr (Or.inr (Or.inr (Or.inr h))))))
/-- Days that are none, and days the wrong way round, are refused by all ways. -/
theorem co_no {k a b : Int} {t : Bool} {en f : Int} {X : Nat → Int} {n : Nat} (hk : 0 ≤ k ∧ k ≤ 6) (h : (a < 1 ∨ 3652059 < a) ∨ (b < 1 ∨ 3652059 < b)) : CoIs k a b t en f X n 0 0 3 := by
  have : k = 0 ∨ k = 1 ∨ k = 2 ∨ k = 3 ∨ k = 4 ∨ k = 5 ∨ k = 6 := by omega
  rcases this with e | e | e | e | e | e | e
  · exact Or.inl ⟨e, part_out h⟩
  · exact Or.inr (Or.inl ⟨e, part_out h⟩)
  · exact Or.inr (Or.inr (Or.inl ⟨e, part_out h⟩))
  · exact Or.inr (Or.inr (Or.inr (Or.inl ⟨e, ac_out h⟩)))
  · exact Or.inr (Or.inr (Or.inr (Or.inr (Or.inl ⟨e, ac_out h⟩))))
  · exact Or.inr (Or.inr (Or.inr (Or.inr (Or.inr (Or.inl ⟨e, ac_out h⟩)))))
  · exact Or.inr (Or.inr (Or.inr (Or.inr (Or.inr (Or.inr (Or.inl ⟨e, Or.inl ⟨by unfold isDay; omega, rfl, rfl, rfl⟩⟩))))))
theorem co_order {k a b : Int} {t : Bool} {en f : Int} {X : Nat → Int} {n : Nat} (hk : 0 ≤ k ∧ k ≤ 6) (h1 : 1 ≤ a ∧ a ≤ 3652059) (h2 : 1 ≤ b ∧ b ≤ 3652059) (h : b < a) : CoIs k a b t en f X n 0 0 4 := by
  have : k = 0 ∨ k = 1 ∨ k = 2 ∨ k = 3 ∨ k = 4 ∨ k = 5 ∨ k = 6 := by omega
  rcases this with e | e | e | e | e | e | e
  · exact Or.inl ⟨e, part_order h1 h2 h⟩
  · exact Or.inr (Or.inl ⟨e, part_order h1 h2 h⟩)
  · exact Or.inr (Or.inr (Or.inl ⟨e, part_order h1 h2 h⟩))
  · exact Or.inr (Or.inr (Or.inr (Or.inl ⟨e, ac_order h1 h2 h⟩)))
  · exact Or.inr (Or.inr (Or.inr (Or.inr (Or.inl ⟨e, ac_order h1 h2 h⟩))))
  · exact Or.inr (Or.inr (Or.inr (Or.inr (Or.inr (Or.inl ⟨e, ac_order h1 h2 h⟩)))))
  · exact Or.inr (Or.inr (Or.inr (Or.inr (Or.inr (Or.inr (Or.inl ⟨e, Or.inr (Or.inl ⟨⟨h1, h2⟩, h, rfl, rfl, rfl⟩)⟩))))))
theorem co_none {k a b : Int} {t : Bool} {en f : Int} {X : Nat → Int} {n : Nat} (hk : k < 0 ∨ 6 < k) : CoIs k a b t en f X n 0 0 1 :=
  Or.inr (Or.inr (Or.inr (Or.inr (Or.inr (Or.inr (Or.inr ⟨hk, rfl, rfl, rfl⟩))))))

/-! How far off a part by days of 360 is from days that are. -/
theorem a0_off (m : Int) (h1 : 1 ≤ m) (h2 : m ≤ 12) : -1 ≤ a0 m - 30 * (m - 1) ∧ a0 m - 30 * (m - 1) ≤ 4 := by
  have : m = 1 ∨ m = 2 ∨ m = 3 ∨ m = 4 ∨ m = 5 ∨ m = 6 ∨ m = 7 ∨ m = 8 ∨ m = 9 ∨ m = 10 ∨ m = 11 ∨ m = 12 := by omega
  rcases this with rfl | rfl | rfl | rfl | rfl | rfl | rfl | rfl | rfl | rfl | rfl | rfl <;> decide
theorem am_off (y m : Int) (h1 : 1 ≤ m) (h2 : m ≤ 12) : -1 ≤ am y m - 30 * (m - 1) ∧ am y m - 30 * (m - 1) ≤ 5 := by
  have := a0_off m h1 h2
  unfold am
  split <;> omega
/-- Days of the month that stand for those of two days are off by three at most. -/
theorem px_off (y1 m1 d1 y2 m2 d2 e1 e2 : Int) (h1 : may y1 m1 d1) (h2 : may y2 m2 d2) (h : nb y1 m1 d1 ≤ nb y2 m2 d2) (hs : nb y2 m2 d2 - nb y1 m1 d1 ≤ 36500)
    (a : -3 ≤ e1 - d1 ∧ e1 - d1 ≤ 3) (b : -3 ≤ e2 - d2 ∧ e2 - d2 ≤ 3) :
    (nb y2 m2 d2 - nb y1 m1 d1) - px y1 m1 e1 y2 m2 e2 ≤ 60 + (nb y2 m2 d2 - nb y1 m1 d1) / 50 ∧ px y1 m1 e1 y2 m2 e2 - (nb y2 m2 d2 - nb y1 m1 d1) ≤ 60 := by
  obtain ⟨a1, a2, a3, a4, a5, a6⟩ := h1
  obtain ⟨b1, b2, b3, b4, b5, b6⟩ := h2
  have o1 := am_off y1 m1 a3 a4
  have o2 := am_off y2 m2 b3 b4
  have l1 := (ln_le y1 m1).2
  have l2 := (ln_le y2 m2).2
  unfold px
  unfold nb ah at h hs ⊢
  split <;> omega
theorem off_of {p q k y x z : Int} (hk : 0 < k) (hq : 0 ≤ q) (h : p * k = y * q) (h1 : 360 * y - x * k ≤ z * k) (h2 : x * k - 360 * y ≤ z * k) : 360 * p - x * q ≤ z * q ∧ x * q - 360 * p ≤ z * q := by
  have e1 := Int.mul_le_mul_of_nonneg_right h1 hq
  have e2 := Int.mul_le_mul_of_nonneg_right h2 hq
  constructor
  · refine Int.le_of_mul_le_mul_left (a := k) ?_ hk
    have : k * (360 * p - x * q) = (360 * y - x * k) * q := by grind
    have : k * (z * q) = z * k * q := by grind
    omega
  · refine Int.le_of_mul_le_mul_left (a := k) ?_ hk
    have : k * (x * q - 360 * p) = (x * k - 360 * y) * q := by grind
    have : k * (z * q) = z * k * q := by grind
    omega
theorem cut_off (d : Int) : -3 ≤ cutD d - d ∧ cutD d - d ≤ 3 := by unfold cutD; split <;> omega
theorem feb_ln (y : Int) : 28 ≤ ln y 2 ∧ ln y 2 ≤ 29 := by unfold ln l0; cases lp y <;> decide
theorem ful_off (y m d : Int) (h : may y m d) : -3 ≤ fulD y m d - d ∧ fulD y m d - d ≤ 3 := by
  obtain ⟨-, -, h3, h4, h5, h6⟩ := h
  have := ln_ge y m h3 h4
  have := (ln_le y m).2
  unfold fulD
  split <;> omega
theorem is_off (t : Bool) (y m d : Int) (h : may y m d) : -3 ≤ isB t y m d - d ∧ isB t y m d - d ≤ 3 := by
  obtain ⟨-, -, h3, h4, h5, h6⟩ := h
  have := ln_ge y m h3 h4
  have := (ln_le y m).2
  unfold isB
  split <;> omega
theorem us_off (t : Bool) (y1 m1 d1 y2 m2 d2 : Int) (h1 : may y1 m1 d1) (h2 : may y2 m2 d2) :
    (-3 ≤ cutD (usA t (febB y1 m1 d1) d1) - d1 ∧ cutD (usA t (febB y1 m1 d1) d1) - d1 ≤ 3) ∧
    (-3 ≤ usC (usA t (febB y1 m1 d1) d1) (usB t (febB y1 m1 d1) (febB y2 m2 d2) d2) - d2 ∧ usC (usA t (febB y1 m1 d1) d1) (usB t (febB y1 m1 d1) (febB y2 m2 d2) d2) - d2 ≤ 3) := by
  have f1 : febB y1 m1 d1 = true → 28 ≤ d1 ∧ d1 ≤ 29 := fun h => by
    unfold febB at h
    rw [decide_eq_true_eq] at h
    have := feb_ln y1
    obtain ⟨rfl, h⟩ := h
    omega
  have f2 : febB y2 m2 d2 = true → 28 ≤ d2 ∧ d2 ≤ 29 := fun h => by
    unfold febB at h
    rw [decide_eq_true_eq] at h
    have := feb_ln y2
    obtain ⟨rfl, h⟩ := h
    omega
  generalize febB y1 m1 d1 = u1 at f1 ⊢
  generalize febB y2 m2 d2 = u2 at f2 ⊢
  have a : -3 ≤ usA t u1 d1 - d1 ∧ usA t u1 d1 - d1 ≤ 2 ∧ (usA t u1 d1 = d1 ∨ usA t u1 d1 = 30) := by
    unfold usA
    split
    · rename_i k; have := f1 k.2; omega
    · omega
  generalize usA t u1 d1 = A at a ⊢
  constructor
  · unfold cutD; split <;> omega
  · have b : -3 ≤ usB t u1 u2 d2 - d2 ∧ usB t u1 u2 d2 - d2 ≤ 2 ∧ (usB t u1 u2 d2 = d2 ∨ usB t u1 u2 d2 = 30) := by
      unfold usB
      split
      · rename_i k; have := f2 k.2.2; omega
      · omega
    generalize usB t u1 u2 d2 = B at b ⊢
    unfold usC
    split <;> omega
theorem us_same (t : Bool) (y m d : Int) : uX t y m d y m d = 0 := by
  unfold uX
  generalize febB y m d = u
  have e : usB t u u d = usA t u d := by unfold usB usA; cases t <;> cases u <;> rfl
  rw [e]
  generalize usA t u d = A
  have e2 : usC A A = cutD A := by unfold usC cutD; split <;> split <;> omega
  rw [e2]
  unfold px
  split <;> omega
theorem e_same (y m d : Int) : eX y m d y m d = 0 := by unfold eX px; split <;> omega
theorem is_same (t : Bool) (y m d : Int) (h : may y m d) : iX t y m d y m d = 0 := by
  obtain ⟨-, -, h3, h4, h5, h6⟩ := h
  have f := feb_ln y
  have e : isB t y m d ≤ fulD y m d := by
    unfold isB fulD
    by_cases k : d = ln y m
    · rw [if_pos k]
      split
      · omega
      · rename_i k2
        have : m = 2 := Classical.byContradiction fun z => k2 ⟨k, fun x => z x.2⟩
        subst this
        omega
    · rw [if_neg k, if_neg (fun x => k x.1)]; omega
  have e2 : isB t y m d = fulD y m d ∨ isB t y m d < fulD y m d := by omega
  unfold iX px
  split <;> omega
/-- From a day to itself each way tells 0. -/
theorem co_same {k a : Int} {t : Bool} {en f : Int} {X : Nat → Int} {n : Nat} (hk : 0 ≤ k ∧ k ≤ 6) (h : 1 ≤ a ∧ a ≤ 3652059) (h6 : k = 6 → MayX X n f ∧ X 0 ≤ a ∧ a ≤ X (n - 1)) : CoIs k a a t en f X n 0 1 0 := by
  obtain ⟨y, m, d, h1, h2⟩ := day_of a h.1 h.2
  have z0 : rN 0 360 = 0 := by decide +kernel
  have z1 : rD 0 360 = 1 := by decide +kernel
  have : k = 0 ∨ k = 1 ∨ k = 2 ∨ k = 3 ∨ k = 4 ∨ k = 5 ∨ k = 6 := by omega
  rcases this with e | e | e | e | e | e | e
  · exact Or.inl ⟨e, part_in y m d y m d h1 h2 h1 h2 (Int.le_refl _) 0 (us_same t y m d) z0 z1⟩
  · exact Or.inr (Or.inl ⟨e, part_in y m d y m d h1 h2 h1 h2 (Int.le_refl _) 0 (e_same y m d) z0 z1⟩)
  · exact Or.inr (Or.inr (Or.inl ⟨e, part_in y m d y m d h1 h2 h1 h2 (Int.le_refl _) 0 (is_same _ y m d h1) z0 z1⟩))
  · refine Or.inr (Or.inr (Or.inr (Or.inl ⟨e, ac_in y m d y m d h1 h2 h1 h2 (Int.le_refl _) ?_ ?_⟩))) <;> (unfold aX; rw [Int.sub_self]; decide +kernel)
  · refine Or.inr (Or.inr (Or.inr (Or.inr (Or.inl ⟨e, ac_in y m d y m d h1 h2 h1 h2 (Int.le_refl _) ?_ ?_⟩)))) <;> (unfold aX; rw [Int.sub_self]; decide +kernel)
  · have z : yX y m d y m d = 0 := by unfold yX inX; omega
    refine Or.inr (Or.inr (Or.inr (Or.inr (Or.inr (Or.inl ⟨e, ac_in y m d y m d h1 h2 h1 h2 (Int.le_refl _) ?_ ?_⟩))))) <;> (rw [z]; decide +kernel)
  · obtain ⟨hm, h0, hn⟩ := h6 e
    have z : vP X (n - 1) f a a = 0 := vP_same X (n - 1) f a
    refine Or.inr (Or.inr (Or.inr (Or.inr (Or.inr (Or.inr (Or.inl ⟨e, Or.inr (Or.inr (Or.inr ⟨⟨h, h⟩, Int.le_refl _, ⟨hm, h0, hn⟩, ?_, ?_, rfl⟩))⟩))))))
    · rw [z]; rfl
    · rw [z]; rfl
theorem t_off {X : Int} (h0 : 0 ≤ X) (h1 : X ≤ 3700000) {x z : Int} (h2 : 360 * X - x * 360 ≤ z * 360) (h3 : x * 360 - 360 * X ≤ z * 360) :
    rightB (rN X 360) (rD X 360) = true ∧ rN X 360 ≤ 3700000 ∧ rD X 360 ≤ 133590 ∧ 360 * rN X 360 - x * rD X 360 ≤ z * rD X 360 ∧ x * rD X 360 - 360 * rN X 360 ≤ z * rD X 360 := by
  have y := r_yes (fit_small_ty X h0 h1)
  have r := part_right X h0 h1
  rw [y.1, y.2.1] at r ⊢
  have l := m_le X 360 h0 (by decide)
  have o := off_of (show (0 : Int) < 360 by decide) (Int.le_of_lt (mD_pos X 360 (by decide))) (m_cross X 360) h2 h3
  exact ⟨r, by omega, by omega, o.1, o.2⟩
theorem a_off {X k : Int} (k0 : 0 < k) (k1 : k ≤ 133590) (h0 : 0 ≤ X) (h1 : X ≤ 1400000000) {x z : Int} (h2 : 360 * X - x * k ≤ z * k) (h3 : x * k - 360 * X ≤ z * k) :
    rightB (rN X k) (rD X k) = true ∧ rN X k ≤ 1400000000 ∧ rD X k ≤ 133590 ∧ 360 * rN X k - x * rD X k ≤ z * rD X k ∧ x * rD X k - 360 * rN X k ≤ z * rD X k := by
  have y := r_yes (fit_den X k h0 (by omega) k0 (by omega))
  have r := ac_right X k h0 (by omega) k0 (by omega)
  rw [y.1, y.2.1] at r ⊢
  have l := m_le X k h0 (by omega)
  have o := off_of k0 (Int.le_of_lt (mD_pos X k k0)) (m_cross X k) h2 h3
  exact ⟨r, by omega, by omega, o.1, o.2⟩
/-- What is told of days that aren't far apart is never far off. -/
theorem co_off {k a b : Int} {t : Bool} {en f : Int} {X : Nat → Int} {n : Nat} (hk : 0 ≤ k ∧ k ≤ 5) (h1 : 1 ≤ a ∧ a ≤ 3652059) (h2 : 1 ≤ b ∧ b ≤ 3652059) (h : a ≤ b) (hs : b - a ≤ 36500) :
    ∃ p q, CoIs k a b t en f X n p q 0 ∧ rightB p q = true ∧ p ≤ 1400000000 ∧ q ≤ 133590 ∧ 360 * p - (b - a) * q ≤ (60 + (b - a) / 50) * q ∧ (b - a) * q - 360 * p ≤ (60 + (b - a) / 50) * q := by
  obtain ⟨y1, m1, d1, a1, a2⟩ := day_of a h1.1 h1.2
  obtain ⟨y2, m2, d2, b1, b2⟩ := day_of b h2.1 h2.2
  have hn : nb y1 m1 d1 ≤ nb y2 m2 d2 := by omega
  have hd : nb y2 m2 d2 - nb y1 m1 d1 = b - a := by omega
  have : k = 0 ∨ k = 1 ∨ k = 2 ∨ k = 3 ∨ k = 4 ∨ k = 5 := by omega
  rcases this with e | e | e | e | e | e
  · have u := us_off t y1 m1 d1 y2 m2 d2 a1 b1
    have o := px_off y1 m1 d1 y2 m2 d2 _ _ a1 b1 hn (by omega) u.1 u.2
    obtain ⟨x, hx⟩ : ∃ x, uX t y1 m1 d1 y2 m2 d2 = x := ⟨_, rfl⟩
    have o1 : (b - a) - x ≤ 60 + (b - a) / 50 ∧ x - (b - a) ≤ 60 := by rw [← hx, ← hd]; exact o
    have x0 : 0 ≤ x := by rw [← hx]; unfold uX px; split <;> omega
    have r := t_off (X := x) (x := b - a) (z := 60 + (b - a) / 50) x0 (by omega) (by omega) (by omega)
    exact ⟨_, _, Or.inl ⟨e, part_in y1 m1 d1 y2 m2 d2 a1 a2 b1 b2 h x hx rfl rfl⟩, r.1, by omega, r.2.2.1, r.2.2.2⟩
  · have o := px_off y1 m1 d1 y2 m2 d2 _ _ a1 b1 hn (by omega) (cut_off d1) (cut_off d2)
    obtain ⟨x, hx⟩ : ∃ x, eX y1 m1 d1 y2 m2 d2 = x := ⟨_, rfl⟩
    have o1 : (b - a) - x ≤ 60 + (b - a) / 50 ∧ x - (b - a) ≤ 60 := by rw [← hx, ← hd]; exact o
    have x0 : 0 ≤ x := by rw [← hx]; unfold eX px; split <;> omega
    have r := t_off (X := x) (x := b - a) (z := 60 + (b - a) / 50) x0 (by omega) (by omega) (by omega)
    exact ⟨_, _, Or.inr (Or.inl ⟨e, part_in y1 m1 d1 y2 m2 d2 a1 a2 b1 b2 h x hx rfl rfl⟩), r.1, by omega, r.2.2.1, r.2.2.2⟩
  · have o := px_off y1 m1 d1 y2 m2 d2 _ _ a1 b1 hn (by omega) (ful_off y1 m1 d1 a1) (is_off (decide (b = en)) y2 m2 d2 b1)
    obtain ⟨x, hx⟩ : ∃ x, iX (decide (b = en)) y1 m1 d1 y2 m2 d2 = x := ⟨_, rfl⟩
    have o1 : (b - a) - x ≤ 60 + (b - a) / 50 ∧ x - (b - a) ≤ 60 := by rw [← hx, ← hd]; exact o
    have x0 : 0 ≤ x := by rw [← hx]; unfold iX px; split <;> omega
    have r := t_off (X := x) (x := b - a) (z := 60 + (b - a) / 50) x0 (by omega) (by omega) (by omega)
    exact ⟨_, _, Or.inr (Or.inr (Or.inl ⟨e, part_in y1 m1 d1 y2 m2 d2 a1 a2 b1 b2 h x hx rfl rfl⟩)), r.1, by omega, r.2.2.1, r.2.2.2⟩
  · have r := a_off (X := b - a) (k := 360) (x := b - a) (z := 60 + (b - a) / 50) (by decide) (by decide) (by omega) (by omega) (by omega) (by omega)
    exact ⟨_, _, Or.inr (Or.inr (Or.inr (Or.inl ⟨e, ac_days a b 360 h1 h2 h⟩))), r.1, r.2.1, r.2.2.1, r.2.2.2⟩
  · have r := a_off (X := b - a) (k := 365) (x := b - a) (z := 60 + (b - a) / 50) (by decide) (by decide) (by omega) (by omega) (by omega) (by omega)
    exact ⟨_, _, Or.inr (Or.inr (Or.inr (Or.inr (Or.inl ⟨e, ac_days a b 365 h1 h2 h⟩)))), r.1, r.2.1, r.2.2.1, r.2.2.2⟩
  · have l := yX_bd y1 m1 d1 y2 m2 d2 a1 b1 hn
    rw [hd] at l
    obtain ⟨x, hx⟩ : ∃ x, yX y1 m1 d1 y2 m2 d2 = x := ⟨_, rfl⟩
    rw [hx] at l
    have r := a_off (X := x) (k := 133590) (x := b - a) (z := 60 + (b - a) / 50) (by decide) (by decide) (by omega) (by omega) (by omega) (by omega)
    exact ⟨_, _, Or.inr (Or.inr (Or.inr (Or.inr (Or.inr (Or.inl ⟨e, ac_years y1 m1 d1 y2 m2 d2 x a1 a2 b1 b2 h hx⟩))))), r.1, r.2.1, r.2.2.1, r.2.2.2⟩
/-- What is told is right. -/
theorem co_told {k a b : Int} {t : Bool} {en f : Int} {X : Nat → Int} {n : Nat} (hk : 0 ≤ k ∧ k ≤ 6) (h1 : 1 ≤ a ∧ a ≤ 3652059) (h2 : 1 ≤ b ∧ b ≤ 3652059) (h : a ≤ b) (h6 : k = 6 → MayX X n f ∧ X 0 ≤ a ∧ b ≤ X (n - 1)) :
    ∃ p q, CoIs k a b t en f X n p q 0 ∧ rightB p q = true := by
  obtain ⟨y1, m1, d1, a1, a2⟩ := day_of a h1.1 h1.2
  obtain ⟨y2, m2, d2, b1, b2⟩ := day_of b h2.1 h2.2
  have hn : nb y1 m1 d1 ≤ nb y2 m2 d2 := by omega
  have c0 : ∀ e1 e2 : Int, -3 ≤ e1 - d1 ∧ e1 - d1 ≤ 3 → -3 ≤ e2 - d2 ∧ e2 - d2 ≤ 3 → 0 ≤ px y1 m1 e1 y2 m2 e2 ∧ px y1 m1 e1 y2 m2 e2 ≤ 3700000 := fun e1 e2 u v => by
    obtain ⟨g1, g2, g3, g4, g5, g6⟩ := a1
    obtain ⟨k1, k2, k3, k4, k5, k6⟩ := b1
    have l1 := (ln_le y1 m1).2
    have l2 := (ln_le y2 m2).2
    unfold px
    split <;> omega
  have : k = 0 ∨ k = 1 ∨ k = 2 ∨ k = 3 ∨ k = 4 ∨ k = 5 ∨ k = 6 := by omega
  rcases this with e | e | e | e | e | e | e
  · have u := us_off t y1 m1 d1 y2 m2 d2 a1 b1
    have z := c0 _ _ u.1 u.2
    exact ⟨_, _, Or.inl ⟨e, part_in y1 m1 d1 y2 m2 d2 a1 a2 b1 b2 h _ rfl rfl rfl⟩, part_right _ z.1 z.2⟩
  · have z := c0 _ _ (cut_off d1) (cut_off d2)
    exact ⟨_, _, Or.inr (Or.inl ⟨e, part_in y1 m1 d1 y2 m2 d2 a1 a2 b1 b2 h _ rfl rfl rfl⟩), part_right _ z.1 z.2⟩
  · have z := c0 _ _ (ful_off y1 m1 d1 a1) (is_off (decide (b = en)) y2 m2 d2 b1)
    exact ⟨_, _, Or.inr (Or.inr (Or.inl ⟨e, part_in y1 m1 d1 y2 m2 d2 a1 a2 b1 b2 h _ rfl rfl rfl⟩)), part_right _ z.1 z.2⟩
  · exact ⟨_, _, Or.inr (Or.inr (Or.inr (Or.inl ⟨e, ac_days a b 360 h1 h2 h⟩))), ac_right _ _ (by omega) (by omega) (by decide) (by decide)⟩
  · exact ⟨_, _, Or.inr (Or.inr (Or.inr (Or.inr (Or.inl ⟨e, ac_days a b 365 h1 h2 h⟩)))), ac_right _ _ (by omega) (by omega) (by decide) (by decide)⟩
  · have l := yX_bd y1 m1 d1 y2 m2 d2 a1 b1 hn
    exact ⟨_, _, Or.inr (Or.inr (Or.inr (Or.inr (Or.inr (Or.inl ⟨e, ac_years y1 m1 d1 y2 m2 d2 _ a1 a2 b1 b2 h rfl⟩))))), ac_right _ _ (by omega) (by omega) (by decide) (by decide)⟩
  · obtain ⟨hm, h0, hb⟩ := h6 e
    have hx := hm.2.2.2.1
    have r := vP_right X (n - 1) f a b (hx.less (by have := hm.1; omega)) (by have := hm.2.1; omega) hm.2.2.1 h
    exact ⟨_, _, Or.inr (Or.inr (Or.inr (Or.inr (Or.inr (Or.inr (Or.inl ⟨e, Or.inr (Or.inr (Or.inr ⟨⟨h1, h2⟩, h, ⟨hm, h0, hb⟩, rfl, rfl, rfl⟩))⟩)))))), r⟩
/-! Sums. -/
/-- Three parts, the third of which is the sum of the others; both of these are right. -/
def Adds (k a b c : Int) (t : Bool) (en f : Int) (X : Nat → Int) (n : Nat) : Prop :=
  ∃ p q r s u v, CoIs k a b t en f X n p q 0 ∧ CoIs k b c t en f X n r s 0 ∧ CoIs k a c t en f X n u v 0 ∧ rightB p q = true ∧ rightB r s = true ∧
    (rN (p * s + r * q) (q * s) = u ∧ rD (p * s + r * q) (q * s) = v ∧ rE (p * s + r * q) (q * s) = 0)
theorem co_adds {k a b c : Int} {t : Bool} {en f : Int} {X : Nat → Int} {n : Nat} (hk : k = 1 ∨ k = 3 ∨ k = 4 ∨ k = 5) (h1 : 1 ≤ a ∧ a ≤ 3652059) (h2 : 1 ≤ b ∧ b ≤ 3652059) (h3 : 1 ≤ c ∧ c ≤ 3652059) (hab : a ≤ b) (hbc : b ≤ c) :
    Adds k a b c t en f X n := by
  have hac : a ≤ c := by omega
  rcases hk with e | e | e | e
  · obtain ⟨y1, m1, d1, a1, a2⟩ := day_of a h1.1 h1.2
    obtain ⟨y2, m2, d2, b1, b2⟩ := day_of b h2.1 h2.2
    obtain ⟨y3, m3, d3, c1, c2⟩ := day_of c h3.1 h3.2
    have r1 := eX_raw y1 m1 d1 y2 m2 d2 a1 b1 (by omega)
    have r2 := eX_raw y2 m2 d2 y3 m3 d3 b1 c1 (by omega)
    have s : eX y1 m1 d1 y3 m3 d3 = eX y1 m1 d1 y2 m2 d2 + eX y2 m2 d2 y3 m3 d3 := by unfold eX px; split <;> split <;> split <;> omega
    have k1 := cutD_bd d1 a1.2.2.2.2.1 (by have := (ln_le y1 m1).2; have := a1.2.2.2.2.2; omega)
    have k2 := cutD_bd d2 b1.2.2.2.2.1 (by have := (ln_le y2 m2).2; have := b1.2.2.2.2.2; omega)
    have k3 := cutD_bd d3 c1.2.2.2.2.1 (by have := (ln_le y3 m3).2; have := c1.2.2.2.2.2; omega)
    have x1 := px_most y1 m1 d1 y2 m2 d2 (cutD d1) (cutD d2) a1 b1 ⟨by omega, by omega⟩ ⟨by omega, by omega⟩
    have x2 := px_most y2 m2 d2 y3 m3 d3 (cutD d2) (cutD d3) b1 c1 ⟨by omega, by omega⟩ ⟨by omega, by omega⟩
    have x3 := px_most y1 m1 d1 y3 m3 d3 (cutD d1) (cutD d3) a1 c1 ⟨by omega, by omega⟩ ⟨by omega, by omega⟩
    have q := part_add (eX y1 m1 d1 y2 m2 d2) (eX y2 m2 d2 y3 m3 d3) x1.1 x1.2 x2.1 x2.2 (by rw [← s]; exact x3.2)
    rw [← s] at q
    exact ⟨_, _, _, _, _, _, Or.inr (Or.inl ⟨e, part_in y1 m1 d1 y2 m2 d2 a1 a2 b1 b2 hab _ rfl rfl rfl⟩), Or.inr (Or.inl ⟨e, part_in y2 m2 d2 y3 m3 d3 b1 b2 c1 c2 hbc _ rfl rfl rfl⟩), Or.inr (Or.inl ⟨e, part_in y1 m1 d1 y3 m3 d3 a1 a2 c1 c2 hac _ rfl rfl rfl⟩), part_right _ x1.1 x1.2, part_right _ x2.1 x2.2, q⟩
  · have q := ac_add (b - a) (c - b) 360 (by omega) (by omega) (by omega) (by decide) (by decide)
    rw [show b - a + (c - b) = c - a by omega] at q
    exact ⟨_, _, _, _, _, _, Or.inr (Or.inr (Or.inr (Or.inl ⟨e, ac_days a b 360 h1 h2 hab⟩))), Or.inr (Or.inr (Or.inr (Or.inl ⟨e, ac_days b c 360 h2 h3 hbc⟩))), Or.inr (Or.inr (Or.inr (Or.inl ⟨e, ac_days a c 360 h1 h3 hac⟩))), ac_right _ _ (by omega) (by omega) (by decide) (by decide), ac_right _ _ (by omega) (by omega) (by decide) (by decide), q⟩
  · have q := ac_add (b - a) (c - b) 365 (by omega) (by omega) (by omega) (by decide) (by decide)
    rw [show b - a + (c - b) = c - a by omega] at q
    exact ⟨_, _, _, _, _, _, Or.inr (Or.inr (Or.inr (Or.inr (Or.inl ⟨e, ac_days a b 365 h1 h2 hab⟩)))), Or.inr (Or.inr (Or.inr (Or.inr (Or.inl ⟨e, ac_days b c 365 h2 h3 hbc⟩)))), Or.inr (Or.inr (Or.inr (Or.inr (Or.inl ⟨e, ac_days a c 365 h1 h3 hac⟩)))), ac_right _ _ (by omega) (by omega) (by decide) (by decide), ac_right _ _ (by omega) (by omega) (by decide) (by decide), q⟩
  · obtain ⟨y1, m1, d1, a1, a2⟩ := day_of a h1.1 h1.2
    obtain ⟨y2, m2, d2, b1, b2⟩ := day_of b h2.1 h2.2
    obtain ⟨y3, m3, d3, c1, c2⟩ := day_of c h3.1 h3.2
    have l1 := yX_bd y1 m1 d1 y2 m2 d2 a1 b1 (by omega)
    have l2 := yX_bd y2 m2 d2 y3 m3 d3 b1 c1 (by omega)
    have l3 := yX_bd y1 m1 d1 y3 m3 d3 a1 c1 (by omega)
    have s := yX_add y1 m1 d1 y2 m2 d2 y3 m3 d3
    have q := ac_add (yX y1 m1 d1 y2 m2 d2) (yX y2 m2 d2 y3 m3 d3) 133590 (by omega) (by omega) (by omega) (by decide) (by decide)
    rw [s] at q
    exact ⟨_, _, _, _, _, _, Or.inr (Or.inr (Or.inr (Or.inr (Or.inr (Or.inl ⟨e, ac_years y1 m1 d1 y2 m2 d2 _ a1 a2 b1 b2 hab rfl⟩))))), Or.inr (Or.inr (Or.inr (Or.inr (Or.inr (Or.inl ⟨e, ac_years y2 m2 d2 y3 m3 d3 _ b1 b2 c1 c2 hbc rfl⟩))))), Or.inr (Or.inr (Or.inr (Or.inr (Or.inr (Or.inl ⟨e, ac_years y1 m1 d1 y3 m3 d3 _ a1 a2 c1 c2 hac rfl⟩))))), ac_right _ _ (by omega) (by omega) (by decide) (by decide), ac_right _ _ (by omega) (by omega) (by decide) (by decide), q⟩
/-- .. by periods that hold the days. -/
theorem co_adds6 {a b c : Int} {t : Bool} {en f : Int} {X : Nat → Int} {m : Nat} (h : MayX X (m + 1) f) (h0 : X 0 ≤ a) (hab : a ≤ b) (hbc : b ≤ c) (hc : c ≤ X m) : Adds 6 a b c t en f X (m + 1) := by
  obtain ⟨p, q, r, s, u, v, g1, g2, g3, g4, g5, g6, -⟩ := adds_all X m f a b c h h0 hab hbc hc
  exact ⟨p, q, r, s, u, v, Or.inr (Or.inr (Or.inr (Or.inr (Or.inr (Or.inr (Or.inl ⟨rfl, g1⟩)))))), Or.inr (Or.inr (Or.inr (Or.inr (Or.inr (Or.inr (Or.inl ⟨rfl, g2⟩)))))), Or.inr (Or.inr (Or.inr (Or.inr (Or.inr (Or.inr (Or.inl ⟨rfl, g3⟩)))))), g4, g5, g6⟩
/-- .. or don't. -/
theorem co_side6 {a c : Int} {t : Bool} {en f : Int} {X : Nat → Int} {n : Nat} (h1 : 1 ≤ a ∧ a ≤ 3652059) (h3 : 1 ≤ c ∧ c ≤ 3652059) (hac : a ≤ c) (h : ¬ (MayX X n f ∧ X 0 ≤ a ∧ c ≤ X (n - 1))) : CoIs 6 a c t en f X n 0 0 5 :=
  Or.inr (Or.inr (Or.inr (Or.inr (Or.inr (Or.inr (Or.inl ⟨rfl, Or.inr (Or.inr (Or.inl ⟨⟨h1, h3⟩, hac, h, rfl, rfl, rfl⟩))⟩))))))
end Go.Proofs.YtkmchbllnfoccaaGreatDoor
