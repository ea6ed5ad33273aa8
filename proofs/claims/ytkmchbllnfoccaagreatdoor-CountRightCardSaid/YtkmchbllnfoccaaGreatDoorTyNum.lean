/- Plain numbers: parts of years of 360 days. No program in this text. -/
import Derived.Test.YtkmchbllnfoccaaGreatDoorMoNum
import Derived.Test.YtkmchbllnfoccaaGreatDoorRatioNum
namespace Go.Proofs.YtkmchbllnfoccaaGreatDoor
set_option linter.unusedVariables false

/-- How many 360th parts there are between two days, by what stands for their days of the month: 0 at least. -/
def px (y1 m1 d1 y2 m2 d2 : Int) : Int := if 360 * (y2 - y1) + 30 * (m2 - m1) + (d2 - d1) < 0 then 0 else 360 * (y2 - y1) + 30 * (m2 - m1) + (d2 - d1)
def cutD (d : Int) : Int := if d = 31 then 30 else d
def fulD (y m d : Int) : Int := if d = ln y m then 30 else d
def febB (y m d : Int) : Bool := decide (m = 2 ∧ d = ln y m)
/-- 30/360 US: what stands for the first day, ahead of the cut; and for the second one. -/
def usA (t f1 : Bool) (d1 : Int) : Int := if t = true ∧ f1 = true then 30 else d1
def usB (t f1 f2 : Bool) (d2 : Int) : Int := if t = true ∧ f1 = true ∧ f2 = true then 30 else d2
def usC (a b : Int) : Int := if b = 31 ∧ (a = 30 ∨ a = 31) then 30 else b
def uX (t : Bool) (y1 m1 d1 y2 m2 d2 : Int) : Int :=
  px y1 m1 (cutD (usA t (febB y1 m1 d1) d1)) y2 m2 (usC (usA t (febB y1 m1 d1) d1) (usB t (febB y1 m1 d1) (febB y2 m2 d2) d2))
/-- 30E/360. -/
def eX (y1 m1 d1 y2 m2 d2 : Int) : Int := px y1 m1 (cutD d1) y2 m2 (cutD d2)
/-- 30E/360 ISDA: is the second day the last one of all? -/
def isB (t : Bool) (y m d : Int) : Int := if d = ln y m ∧ ¬ (t = true ∧ m = 2) then 30 else d
def iX (t : Bool) (y1 m1 d1 y2 m2 d2 : Int) : Int := px y1 m1 (fulD y1 m1 d1) y2 m2 (isB t y2 m2 d2)
/-- What is told of two days, by a way to count. -/
def PartIs (X : Int → Int → Int → Int → Int → Int → Int) (a b p q c : Int) : Prop :=
  (∃ y1 m1 d1 y2 m2 d2 : Int, may y1 m1 d1 ∧ nb y1 m1 d1 = a ∧ may y2 m2 d2 ∧ nb y2 m2 d2 = b ∧ a ≤ b ∧ rN (X y1 m1 d1 y2 m2 d2) 360 = p ∧ rD (X y1 m1 d1 y2 m2 d2) 360 = q ∧ c = 0)
  ∨ (((a < 1 ∨ 3652059 < a) ∨ (b < 1 ∨ 3652059 < b)) ∧ p = 0 ∧ q = 0 ∧ c = 3)
  ∨ ((1 ≤ a ∧ a ≤ 3652059) ∧ (1 ≤ b ∧ b ≤ 3652059) ∧ b < a ∧ p = 0 ∧ q = 0 ∧ c = 4)
theorem part_is (X : Int → Int → Int → Int → Int → Int → Int) (a b : Int) : ∃ p q c, PartIs X a b p q c := by
  by_cases h1 : (a < 1 ∨ 3652059 < a) ∨ (b < 1 ∨ 3652059 < b)
  · exact ⟨0, 0, 3, Or.inr (Or.inl ⟨h1, rfl, rfl, rfl⟩)⟩
  · by_cases h2 : b < a
    · exact ⟨0, 0, 4, Or.inr (Or.inr ⟨by omega, by omega, h2, rfl, rfl, rfl⟩)⟩
    · obtain ⟨y1, m1, d1, a1, a2⟩ := day_of a (by omega) (by omega)
      obtain ⟨y2, m2, d2, b1, b2⟩ := day_of b (by omega) (by omega)
      exact ⟨_, _, 0, Or.inl ⟨y1, m1, d1, y2, m2, d2, a1, a2, b1, b2, by omega, rfl, rfl, rfl⟩⟩
theorem part_in {X : Int → Int → Int → Int → Int → Int → Int} {a b p q : Int} (y1 m1 d1 y2 m2 d2 : Int) (h1 : may y1 m1 d1) (ha : nb y1 m1 d1 = a) (h2 : may y2 m2 d2) (hb : nb y2 m2 d2 = b) (hab : a ≤ b)
    (x : Int) (hx : X y1 m1 d1 y2 m2 d2 = x) (hp : rN x 360 = p) (hq : rD x 360 = q) : PartIs X a b p q 0 :=
  Or.inl ⟨y1, m1, d1, y2, m2, d2, h1, ha, h2, hb, hab, by rw [hx, hp], by rw [hx, hq], rfl⟩
theorem px_bd (y1 m1 d1 y2 m2 d2 : Int) (a1 : 1 ≤ y1) (a2 : y1 ≤ 9999) (b1 : 1 ≤ y2) (b2 : y2 ≤ 9999) (c1 : 1 ≤ m1) (c2 : m1 ≤ 12) (e1 : 1 ≤ m2) (e2 : m2 ≤ 12) (f1 : 0 ≤ d1) (f2 : d1 ≤ 31) (g1 : 0 ≤ d2) (g2 : d2 ≤ 31) :
    0 ≤ px y1 m1 d1 y2 m2 d2 ∧ px y1 m1 d1 y2 m2 d2 ≤ 3700000 := by
  unfold px; split <;> omega
theorem fit_small_ty (x : Int) (h0 : 0 ≤ x) (h : x ≤ 3700000) : fitB x 360 = true := by
  rw [fit_iff]
  have := m_le x 360 h0 (by decide)
  omega
end Go.Proofs.YtkmchbllnfoccaaGreatDoor
