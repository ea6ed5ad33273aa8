/- Package ratio: Mul: the product of two fractions that are right. -/
import Derived.Test.YtghhnpbepilefaaRight
namespace Go.Proofs.Ytghhnpbepilefaa
open Go.RowKit
set_option linter.unusedVariables false

theorem mul_m {an ad bn bd : Int} (ha : rightB an ad = true) (hb : rightB bn bd = true) :
    mN an bd * mN bn ad = mN (an * bn) (ad * bd) ∧ mD bn ad * mD an bd = mD (an * bn) (ad * bd) := by
  obtain ⟨a0, a1, a2, a3, a4⟩ := (right_iff an ad).1 ha
  obtain ⟨b0, b1, b2, b3, b4⟩ := (right_iff bn bd).1 hb
  have p := gi_pos an bd (Or.inr (by omega))
  have q := gi_pos bn ad (Or.inr (by omega))
  have e1 := mN_mul an bd
  have e2 := mD_mul an bd
  have e3 := mN_mul bn ad
  have e4 := mD_mul bn ad
  have o1 := m_one an bd (Or.inr (by omega))
  have o2 := m_one bn ad (Or.inr (by omega))
  have dA : mN an bd ∣ an := ⟨gi an bd, by rw [Int.mul_comm]; exact e1.symm⟩
  have dB : mN bn ad ∣ bn := ⟨gi bn ad, by rw [Int.mul_comm]; exact e3.symm⟩
  have eA : mD bn ad ∣ ad := ⟨gi bn ad, by rw [Int.mul_comm]; exact e4.symm⟩
  have eB : mD an bd ∣ bd := ⟨gi an bd, by rw [Int.mul_comm]; exact e2.symm⟩
  have c1 : gi (mN an bd) (mD bn ad) = 1 := one_dvd_l (one_dvd_r a4 eA) dA
  have c2 : gi (mN bn ad) (mD an bd) = 1 := one_dvd_l (one_dvd_r b4 eB) dB
  have c : gi (mN an bd * mN bn ad) (mD bn ad * mD an bd) = 1 := one_mul_l (one_mul_r c1 o1) (one_mul_r o2 c2)
  have s := m_scale (gi an bd * gi bn ad) (mN an bd * mN bn ad) (mD bn ad * mD an bd) (Int.mul_pos p q)
  have u := m_self _ _ c
  have k1 : gi an bd * gi bn ad * (mN an bd * mN bn ad) = an * bn := by grind
  have k2 : gi an bd * gi bn ad * (mD bn ad * mD an bd) = ad * bd := by grind
  rw [k1, k2] at s
  exact ⟨(s.1.trans u.1).symm, (s.2.trans u.2).symm⟩

set_option maxHeartbeats 2000000 in
theorem rmul_any (an ad bn bd : Int) (w : World) (ha : rightB an ad = true) (hb : rightB bn bd = true) :
    Calls Try.prog 20 #[.agg #[.int .i64 an, .int .i64 ad], .agg #[.int .i64 bn, .int .i64 bd]] w fun e w' => e = .returned (.tuple #[.agg #[.int .i64 (rN (an * bn) (ad * bd)), .int .i64 (rD (an * bn) (ad * bd))], .int .i64 (rE (an * bn) (ad * bd))]) ∧ Below w.heap.size w w' := by
  have H := Held.start w
  obtain ⟨a0, a1, a2, a3, a4⟩ := (right_iff an ad).1 ha
  obtain ⟨b0, b1, b2, b3, b4⟩ := (right_iff bn bd).1 hb
  have MM := mul_m ha hb
  have m1 := m_le an bd a0 (by omega)
  have m2 := m_le bn ad b0 (by omega)
  have m3 := mN_nonneg an bd a0
  have m4 := mN_nonneg bn ad b0
  have m5 := mD_pos an bd (by omega)
  have m6 := mD_pos bn ad (by omega)
  obtain ⟨ta, TA⟩ : ∃ x, Hid (mN an bd = x) := ⟨_, Lib.hid rfl⟩
  obtain ⟨bb, BB⟩ : ∃ x, Hid (mD an bd = x) := ⟨_, Lib.hid rfl⟩
  obtain ⟨tb, TB⟩ : ∃ x, Hid (mN bn ad = x) := ⟨_, Lib.hid rfl⟩
  obtain ⟨ba, BA⟩ : ∃ x, Hid (mD bn ad = x) := ⟨_, Lib.hid rfl⟩
  rw [TA.out, BB.out] at m1
  rw [TB.out, BA.out] at m2
  rw [TA.out] at m3
  rw [TB.out] at m4
  rw [BB.out] at m5
  rw [BA.out] at m6
  rw [TA.out, TB.out, BA.out, BB.out] at MM
  obtain ⟨m11, m12⟩ := m1
  obtain ⟨m21, m22⟩ := m2
  have M1 := Lib.hid MM.1
  have M2 := Lib.hid MM.2
  have p0 : 0 ≤ ta * tb := Int.mul_nonneg m3 m4
  have q0 : 0 ≤ ba * bb := Int.mul_nonneg (by omega) (by omega)
  obtain ⟨p, HP⟩ : ∃ x, Hid (ta * tb = x) := ⟨_, Lib.hid rfl⟩
  obtain ⟨q, HQ⟩ : ∃ x, Hid (ba * bb = x) := ⟨_, Lib.hid rfl⟩
  rw [HP.out] at p0
  rw [HQ.out] at q0
  have N1 := Lib.hid (HP.out.symm.trans M1.out)
  have N2 := Lib.hid (HQ.out.symm.trans M2.out)
  have F := fun w => fit_hl p q (an * bn) (ad * bd) w p0 q0 N1.out N2.out
  have FH := Lib.hid F
  obtain ⟨rn, RN⟩ : ∃ x, Hid (rN (an * bn) (ad * bd) = x) := ⟨_, Lib.hid rfl⟩
  obtain ⟨rd, RD⟩ : ∃ x, Hid (rD (an * bn) (ad * bd) = x) := ⟨_, Lib.hid rfl⟩
  obtain ⟨re, RE⟩ : ∃ x, Hid (rE (an * bn) (ad * bd) = x) := ⟨_, Lib.hid rfl⟩
  rw [RN.out, RD.out, RE.out]
  have RA := Lib.hid ha
  have RB := Lib.hid hb
  clear ha hb MM F a4 b4 p0 q0
  have wan : IntKind.u64.wrap an = an := IntWalk.u64_in _ (by omega)
  have wad : IntKind.u64.wrap ad = ad := IntWalk.u64_in _ (by omega)
  have wbn : IntKind.u64.wrap bn = bn := IntWalk.u64_in _ (by omega)
  have wbd : IntKind.u64.wrap bd = bd := IntWalk.u64_in _ (by omega)
  go_enter Try.func20, Try.ntmps20
  go_wp2_with fail
  replace H := (((H.pair (w.heap.size) (.int .i64 an) (.int .i64 ad) 23 rfl).pair (w.heap.size + 1) (.int .i64 bn) (.int .i64 bd) 23 (by simp)).pair (w.heap.size + 2) (.int .i64 0) (.int .i64 0) 23 (by simp))
  (with_reducible refine (right_yes an ad _ RA.out).mono ?_)
  rintro e w1 ⟨rfl, hb⟩
  replace H := H.below hb
  clear hb
  have cb0 := H.cell (w.heap.size + 1) 0 (.int .i64 bn) (List.Mem.tail _ (List.Mem.tail _ (List.Mem.tail _ (List.Mem.tail _ (List.Mem.head _)))))
  have cb1 := H.cell (w.heap.size + 1) 1 (.int .i64 bd) (List.Mem.tail _ (List.Mem.tail _ (List.Mem.tail _ (List.Mem.tail _ (List.Mem.tail _ (List.Mem.head _))))))
  have lb := H.lt (w.heap.size + 1) 0 (.int .i64 bn) (List.Mem.tail _ (List.Mem.tail _ (List.Mem.tail _ (List.Mem.tail _ (List.Mem.head _)))))
  go_wp2_with fail
  clear cb0 cb1 lb
  (with_reducible refine (right_yes bn bd _ RB.out).mono ?_)
  rintro e w2 ⟨rfl, hb⟩
  replace H := H.below hb
  clear hb
  have ca0 := H.cell (w.heap.size) 0 (.int .i64 an) (List.Mem.tail _ (List.Mem.tail _ (List.Mem.tail _ (List.Mem.tail _ (List.Mem.tail _ (List.Mem.tail _ (List.Mem.tail _ (List.Mem.tail _ (List.Mem.head _)))))))))
  have ca1 := H.cell (w.heap.size) 1 (.int .i64 ad) (List.Mem.tail _ (List.Mem.tail _ (List.Mem.tail _ (List.Mem.tail _ (List.Mem.tail _ (List.Mem.tail _ (List.Mem.tail _ (List.Mem.tail _ (List.Mem.tail _ (List.Mem.head _))))))))))
  have la := H.lt (w.heap.size) 0 (.int .i64 an) (List.Mem.tail _ (List.Mem.tail _ (List.Mem.tail _ (List.Mem.tail _ (List.Mem.tail _ (List.Mem.tail _ (List.Mem.tail _ (List.Mem.tail _ (List.Mem.head _)))))))))
  have cb0 := H.cell (w.heap.size + 1) 0 (.int .i64 bn) (List.Mem.tail _ (List.Mem.tail _ (List.Mem.tail _ (List.Mem.tail _ (List.Mem.head _)))))
  have cb1 := H.cell (w.heap.size + 1) 1 (.int .i64 bd) (List.Mem.tail _ (List.Mem.tail _ (List.Mem.tail _ (List.Mem.tail _ (List.Mem.tail _ (List.Mem.head _))))))
  have lb := H.lt (w.heap.size + 1) 0 (.int .i64 bn) (List.Mem.tail _ (List.Mem.tail _ (List.Mem.tail _ (List.Mem.tail _ (List.Mem.head _)))))
  go_wp2_with fail
  clear ca0 ca1 la cb0 cb1 lb
  (with_reducible refine (lowest_below an bd _ (by omega) (by omega) (by omega) (by omega) (Or.inr (by omega))).mono ?_)
  rw [TA.out, BB.out]
  rintro e w3 ⟨rfl, hb⟩
  replace H := H.below hb
  clear hb
  have ca0 := H.cell (w.heap.size) 0 (.int .i64 an) (List.Mem.tail _ (List.Mem.tail _ (List.Mem.tail _ (List.Mem.tail _ (List.Mem.tail _ (List.Mem.tail _ (List.Mem.tail _ (List.Mem.tail _ (List.Mem.head _)))))))))
  have ca1 := H.cell (w.heap.size) 1 (.int .i64 ad) (List.Mem.tail _ (List.Mem.tail _ (List.Mem.tail _ (List.Mem.tail _ (List.Mem.tail _ (List.Mem.tail _ (List.Mem.tail _ (List.Mem.tail _ (List.Mem.tail _ (List.Mem.head _))))))))))
  have la := H.lt (w.heap.size) 0 (.int .i64 an) (List.Mem.tail _ (List.Mem.tail _ (List.Mem.tail _ (List.Mem.tail _ (List.Mem.tail _ (List.Mem.tail _ (List.Mem.tail _ (List.Mem.tail _ (List.Mem.head _)))))))))
  have cb0 := H.cell (w.heap.size + 1) 0 (.int .i64 bn) (List.Mem.tail _ (List.Mem.tail _ (List.Mem.tail _ (List.Mem.tail _ (List.Mem.head _)))))
  have cb1 := H.cell (w.heap.size + 1) 1 (.int .i64 bd) (List.Mem.tail _ (List.Mem.tail _ (List.Mem.tail _ (List.Mem.tail _ (List.Mem.tail _ (List.Mem.head _))))))
  have lb := H.lt (w.heap.size + 1) 0 (.int .i64 bn) (List.Mem.tail _ (List.Mem.tail _ (List.Mem.tail _ (List.Mem.tail _ (List.Mem.head _)))))
  go_wp2_with fail
  clear ca0 ca1 la cb0 cb1 lb
  (with_reducible refine (lowest_below bn ad _ (by omega) (by omega) (by omega) (by omega) (Or.inr (by omega))).mono ?_)
  rw [TB.out, BA.out]
  rintro e w4 ⟨rfl, hb⟩
  replace H := H.below hb
  clear hb
  go_wp2_with fail
  (with_reducible refine (mul_p ta tb p _ (by omega) (by omega) (by omega) (by omega) HP.out).mono ?_)
  rintro e w5 ⟨rfl, hb⟩
  replace H := H.below hb
  clear hb
  go_wp2_with fail
  (with_reducible refine (mul_p ba bb q _ (by omega) (by omega) (by omega) (by omega) HQ.out).mono ?_)
  rintro e w6 ⟨rfl, hb⟩
  replace H := H.below hb
  clear hb
  go_wp2_with fail
  (with_reducible refine (FH.out _).mono ?_)
  rw [RN.out, RD.out, RE.out]
  rintro e w7 ⟨rfl, hb⟩
  replace H := H.below hb
  clear hb
  have cr0 := H.cell (w.heap.size + 2) 0 (.int .i64 0) (List.Mem.head _)
  have cr1 := H.cell (w.heap.size + 2) 1 (.int .i64 0) (List.Mem.tail _ (List.Mem.head _))
  have lr := H.lt (w.heap.size + 2) 0 (.int .i64 0) (List.Mem.head _)
  have fr0 := H.frozen (w.heap.size + 2) 0 (List.Mem.tail _ (List.Mem.tail _ (List.Mem.head _)))
  have fr1 := H.frozen (w.heap.size + 2) 1 (List.Mem.tail _ (List.Mem.tail _ (List.Mem.tail _ (List.Mem.head _))))
  go_wp2_with fail
  exact bodyPost_ret (v := .tuple #[.agg #[.int .i64 rn, .int .i64 rd], .int .i64 re]) (by simp [results, Try.results20, go_sem, cr0, cr1]) rfl ⟨rfl, (H.old.setCell (by simp <;> omega) _).setCell (by simp <;> omega) _⟩
end Go.Proofs.Ytghhnpbepilefaa
