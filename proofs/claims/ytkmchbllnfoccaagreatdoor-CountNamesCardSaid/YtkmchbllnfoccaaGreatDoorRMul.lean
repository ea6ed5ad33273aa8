/- Package ratio: Mul: the product of two fractions that are right. -/
import Derived.Test.YtkmchbllnfoccaaGreatDoorRight
namespace Go.Proofs.YtkmchbllnfoccaaGreatDoor
open Go.RowKit
set_option linter.unusedVariables false

theorem mul_m {an ad bn bd : Int} (ha : rightB an ad = true) (hb : rightB bn bd = true) :
    mN an bd * mN bn ad = mN (an * bn) (ad * bd) ∧ mD bn ad * mD an bd = mD (an * bn) (ad * bd) := by
  obtain ⟨a0, a1, a2, a3, a4⟩ := (right_iff an ad).1 ha
  obtain ⟨b0, b1, b2, b3, b4⟩ := (right_iff bn bd).1 hb
  have p := gi_pos an bd (Or.inr (by omega))
  have q := gi_pos bn ad (Or.inr (by omega))
  have e1 := mN_mul an bd
  have e2 := mD_mul an bd
  have e3 := mN_mul bn ad
  have e4 := mD_mul bn ad
  have o1 := m_one an bd (Or.inr (by omega))
  have o2 := m_one bn ad (Or.inr (by omega))
  have dA : mN an bd ∣ an := ⟨gi an bd, by rw [Int.mul_comm]; exact e1.symm⟩
  have dB : mN bn ad ∣ bn := ⟨gi bn ad, by rw [Int.mul_comm]; exact e3.symm⟩
  have eA : mD bn ad ∣ ad := ⟨gi bn ad, by rw [Int.mul_comm]; exact e4.symm⟩
  have eB : mD an bd ∣ bd := ⟨gi an bd, by rw [Int.mul_comm]; exact e2.symm⟩
  have c1 : gi (mN an bd) (mD bn ad) = 1 := one_dvd_l (one_dvd_r a4 eA) dA
  have c2 : gi (mN bn ad) (mD an bd) = 1 := one_dvd_l (one_dvd_r b4 eB) dB
  have c : gi (mN an bd * mN bn ad) (mD bn ad * mD an bd) = 1 := one_mul_l (one_mul_r c1 o1) (one_mul_r o2 c2)
  have s := m_scale (gi an bd * gi bn ad) (mN an bd * mN bn ad) (mD bn ad * mD an bd) (Int.mul_pos p q)
  have u := m_self _ _ c
  have k1 : gi an bd * gi bn ad * (mN an bd * mN bn ad) = an * bn := by grind
  have k2 : gi an bd * gi bn ad * (mD bn ad * mD an bd) = ad * bd := by grind
  rw [k1, k2] at s
  exact ⟨(s.1.trans u.1).symm, (s.2.trans u.2).symm⟩

end Go.Proofs.YtkmchbllnfoccaaGreatDoor
