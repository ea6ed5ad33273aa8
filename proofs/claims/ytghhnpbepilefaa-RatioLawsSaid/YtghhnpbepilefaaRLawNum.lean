/- Plain numbers for layer 2's statements: sums and products of fractions, and how they lie to each other. -/
import Derived.Test.YtghhnpbepilefaaRKit
namespace Go.Proofs.Ytghhnpbepilefaa

theorem cmpI_scale {x y u v k l : Int} (hk : 0 < k) (hl : 0 < l) (h : k * (x - y) = l * (u - v)) : cmpI x y = cmpI u v := by
  rcases Int.lt_trichotomy x y with a | a | a
  · have b : u < v := by
      by_cases c : u < v
      · exact c
      · have h1 : k * (x - y) < 0 := Int.mul_neg_of_pos_of_neg hk (by omega)
        have h2 : 0 ≤ l * (u - v) := Int.mul_nonneg (by omega) (by omega)
        omega
    rw [cmpI_lt a, cmpI_lt b]
  · have b : u = v := by
      subst a
      have : l * (u - v) = 0 := by rw [← h]; simp
      rcases Int.mul_eq_zero.1 this with c | c <;> omega
    rw [cmpI_eq a, cmpI_eq b]
  · have b : v < u := by
      by_cases c : v < u
      · exact c
      · have h1 : 0 < k * (x - y) := Int.mul_pos hk (by omega)
        have h2 : l * (u - v) ≤ 0 := Int.mul_nonpos_of_nonneg_of_nonpos (by omega) (by omega)
        omega
    rw [cmpI_gt a, cmpI_gt b]
theorem cmpI_swap (x y : Int) : cmpI y x = - cmpI x y := by
  rcases Int.lt_trichotomy x y with a | a | a
  · rw [cmpI_lt a, cmpI_gt a]; rfl
  · rw [cmpI_eq a, cmpI_eq a.symm]; rfl
  · rw [cmpI_gt a, cmpI_lt a]
theorem cmpI_bd (x y : Int) : -1 ≤ cmpI x y ∧ cmpI x y ≤ 1 := by
  rcases Int.lt_trichotomy x y with a | a | a
  · rw [cmpI_lt a]; omega
  · rw [cmpI_eq a]; omega
  · rw [cmpI_gt a]; omega
theorem cmpI_zero {x y : Int} : cmpI x y = 0 ↔ x = y := by
  rcases Int.lt_trichotomy x y with a | a | a
  · rw [cmpI_lt a]; omega
  · rw [cmpI_eq a]; omega
  · rw [cmpI_gt a]; omega
theorem cmpI_ge {x y : Int} (h : y ≤ x) : 0 ≤ cmpI x y := by
  by_cases e : x = y
  · rw [cmpI_eq e]; omega
  · rw [cmpI_gt (by omega)]; omega

/-- Two fractions in lowest terms of the same worth are the same. -/
theorem right_eq {an ad bn bd : Int} (ha : rightB an ad = true) (hb : rightB bn bd = true) (h : an * bd = bn * ad) : an = bn ∧ ad = bd := by
  have a := (right_iff an ad).1 ha
  have b := (right_iff bn bd).1 hb
  have m := m_eq (by omega) (by omega) h
  have x := m_self an ad a.2.2.2.2
  have y := m_self bn bd b.2.2.2.2
  rw [x.1, x.2, y.1, y.2] at m
  exact m

/-- A sum against one of its parts. -/
theorem sum_over {an ad bn bd : Int} (ha : rightB an ad = true) (hb : rightB bn bd = true) :
    an * mD (an * bd + bn * ad) (ad * bd) ≤ mN (an * bd + bn * ad) (ad * bd) * ad ∧
    (mN (an * bd + bn * ad) (ad * bd) * ad = an * mD (an * bd + bn * ad) (ad * bd) ↔ bn = 0) := by
  have a := (right_iff an ad).1 ha
  have b := (right_iff bn bd).1 hb
  have t0 : 0 < ad * bd := Int.mul_pos (by omega) (by omega)
  have d0 := mD_pos (an * bd + bn * ad) (ad * bd) t0
  have c := m_cross (an * bd + bn * ad) (ad * bd)
  generalize mN (an * bd + bn * ad) (ad * bd) = x at *
  generalize mD (an * bd + bn * ad) (ad * bd) = y at *
  have e : bd * (x * ad - an * y) = bn * (ad * y) := by grind
  have p : 0 < ad * y := Int.mul_pos (by omega) d0
  have q : 0 ≤ bn * (ad * y) := Int.mul_nonneg (by omega) (by omega)
  refine ⟨?_, ?_⟩
  · by_cases k : an * y ≤ x * ad
    · exact k
    · have : bd * (x * ad - an * y) < 0 := Int.mul_neg_of_pos_of_neg (by omega) (by omega)
      omega
  · constructor
    · intro h
      rw [h, Int.sub_self, Int.mul_zero] at e
      rcases Int.mul_eq_zero.1 e.symm with h | h <;> omega
    · intro h
      rw [h, Int.zero_mul] at e
      rcases Int.mul_eq_zero.1 e with h | h <;> omega
theorem sum_over2 {an ad bn bd : Int} (ha : rightB an ad = true) (hb : rightB bn bd = true) :
    bn * mD (an * bd + bn * ad) (ad * bd) ≤ mN (an * bd + bn * ad) (ad * bd) * bd := by
  have := (sum_over hb ha).1
  rw [Int.add_comm (bn * ad), Int.mul_comm bd ad] at this
  exact this
theorem add_zero_r {an ad : Int} (ha : rightB an ad = true) : rN (an * 1 + 0 * ad) (ad * 1) = an ∧ rD (an * 1 + 0 * ad) (ad * 1) = ad ∧ rE (an * 1 + 0 * ad) (ad * 1) = 0 := by
  rw [Int.mul_one, Int.mul_one, Int.zero_mul, Int.add_zero]; exact r_self ha
theorem mul_one_r {an ad : Int} (ha : rightB an ad = true) : rN (an * 1) (ad * 1) = an ∧ rD (an * 1) (ad * 1) = ad ∧ rE (an * 1) (ad * 1) = 0 := by
  rw [Int.mul_one, Int.mul_one]; exact r_self ha
theorem mul_zero_r {an ad : Int} (ha : rightB an ad = true) : rN (an * 0) (ad * 1) = 0 ∧ rD (an * 0) (ad * 1) = 1 ∧ rE (an * 0) (ad * 1) = 0 := by
  have a := (right_iff an ad).1 ha
  have k := r_eq (n := an * 0) (d := ad * 1) (n' := 0) (d' := 1) (by omega) (by omega) (by simp)
  rw [k.1, k.2.1, k.2.2]; exact ⟨by decide +kernel, by decide +kernel, by decide +kernel⟩
theorem add_swap (an ad bn bd : Int) : rN (bn * ad + an * bd) (bd * ad) = rN (an * bd + bn * ad) (ad * bd) ∧ rD (bn * ad + an * bd) (bd * ad) = rD (an * bd + bn * ad) (ad * bd) ∧ rE (bn * ad + an * bd) (bd * ad) = rE (an * bd + bn * ad) (ad * bd) := by
  rw [Int.add_comm (bn * ad), Int.mul_comm bd ad]; exact ⟨rfl, rfl, rfl⟩
theorem mul_swap (an ad bn bd : Int) : rN (bn * an) (bd * ad) = rN (an * bn) (ad * bd) ∧ rD (bn * an) (bd * ad) = rD (an * bn) (ad * bd) ∧ rE (bn * an) (bd * ad) = rE (an * bn) (ad * bd) := by
  rw [Int.mul_comm bn, Int.mul_comm bd]; exact ⟨rfl, rfl, rfl⟩

/-- Small numbers' fractions can be told. -/
theorem fit_small {n d : Int} (hn : 0 ≤ n) (hd : 0 ≤ d) (h1 : n ≤ 4611686018427387904) (h2 : d ≤ 4611686018427387904) : fitB n d = true := by
  have := m_le n d hn hd
  exact (fit_iff n d).2 ⟨by omega, by omega⟩
theorem mul_le3 {a b x y : Int} (h1 : 0 ≤ a) (h2 : a ≤ x) (h3 : 0 ≤ b) (h4 : b ≤ y) : 0 ≤ a * b ∧ a * b ≤ x * y :=
  ⟨Int.mul_nonneg h1 h3, Int.mul_le_mul h2 h4 h3 (by omega)⟩

/-- Three fractions of small numbers. -/
theorem sums_num {an ad bn bd cn cd : Int} (ha : rightB an ad = true) (hb : rightB bn bd = true) (hc : rightB cn cd = true) (a1 : an < 1000000) (a2 : ad < 1000000) (b1 : bn < 1000000) (b2 : bd < 1000000) (c1 : cn < 1000000) (c2 : cd < 1000000) :
    ∃ un ud vn vd wn wd xn xd pn pd qn qd sn sd,
      (rN (an * bd + bn * ad) (ad * bd) = un ∧ rD (an * bd + bn * ad) (ad * bd) = ud ∧ rE (an * bd + bn * ad) (ad * bd) = 0) ∧
      (rN (bn * cd + cn * bd) (bd * cd) = vn ∧ rD (bn * cd + cn * bd) (bd * cd) = vd ∧ rE (bn * cd + cn * bd) (bd * cd) = 0) ∧
      (rN (an * cd + cn * ad) (ad * cd) = wn ∧ rD (an * cd + cn * ad) (ad * cd) = wd ∧ rE (an * cd + cn * ad) (ad * cd) = 0) ∧
      rightB un ud = true ∧ rightB vn vd = true ∧ rightB wn wd = true ∧
      (rN (un * cd + cn * ud) (ud * cd) = xn ∧ rD (un * cd + cn * ud) (ud * cd) = xd ∧ rE (un * cd + cn * ud) (ud * cd) = 0) ∧
      (rN (an * vd + vn * ad) (ad * vd) = xn ∧ rD (an * vd + vn * ad) (ad * vd) = xd ∧ rE (an * vd + vn * ad) (ad * vd) = 0) ∧
      (rN (an * cn) (ad * cd) = pn ∧ rD (an * cn) (ad * cd) = pd ∧ rE (an * cn) (ad * cd) = 0) ∧
      (rN (bn * cn) (bd * cd) = qn ∧ rD (bn * cn) (bd * cd) = qd ∧ rE (bn * cn) (bd * cd) = 0) ∧
      rightB pn pd = true ∧ rightB qn qd = true ∧
      (rN (pn * qd + qn * pd) (pd * qd) = sn ∧ rD (pn * qd + qn * pd) (pd * qd) = sd ∧ rE (pn * qd + qn * pd) (pd * qd) = 0) ∧
      (rN (un * cn) (ud * cd) = sn ∧ rD (un * cn) (ud * cd) = sd ∧ rE (un * cn) (ud * cd) = 0) ∧
      cmpI (wn * vd) (vn * wd) = cmpI (an * bd) (bn * ad) := by
  have a := (right_iff an ad).1 ha
  have b := (right_iff bn bd).1 hb
  have c := (right_iff cn cd).1 hc
  obtain ⟨a0, -, a3, -, -⟩ := a
  obtain ⟨b0, -, b3, -, -⟩ := b
  obtain ⟨c0, -, c3, -, -⟩ := c
  have k1 := mul_le3 a0 (by omega : an ≤ 1000000) (by omega : 0 ≤ bd) (by omega : bd ≤ 1000000)
  have k2 := mul_le3 b0 (by omega : bn ≤ 1000000) (by omega : 0 ≤ ad) (by omega : ad ≤ 1000000)
  have k3 := mul_le3 (by omega : 0 ≤ ad) (by omega : ad ≤ 1000000) (by omega : 0 ≤ bd) (by omega : bd ≤ 1000000)
  have k4 := mul_le3 b0 (by omega : bn ≤ 1000000) (by omega : 0 ≤ cd) (by omega : cd ≤ 1000000)
  have k5 := mul_le3 c0 (by omega : cn ≤ 1000000) (by omega : 0 ≤ bd) (by omega : bd ≤ 1000000)
  have k6 := mul_le3 (by omega : 0 ≤ bd) (by omega : bd ≤ 1000000) (by omega : 0 ≤ cd) (by omega : cd ≤ 1000000)
  have k7 := mul_le3 a0 (by omega : an ≤ 1000000) (by omega : 0 ≤ cd) (by omega : cd ≤ 1000000)
  have k8 := mul_le3 c0 (by omega : cn ≤ 1000000) (by omega : 0 ≤ ad) (by omega : ad ≤ 1000000)
  have k9 := mul_le3 (by omega : 0 ≤ ad) (by omega : ad ≤ 1000000) (by omega : 0 ≤ cd) (by omega : cd ≤ 1000000)
  have l1 := mul_le3 a0 (by omega : an ≤ 1000000) c0 (by omega : cn ≤ 1000000)
  have l2 := mul_le3 b0 (by omega : bn ≤ 1000000) c0 (by omega : cn ≤ 1000000)
  have t1 : 0 < ad * bd := Int.mul_pos (by omega) (by omega)
  have t2 : 0 < bd * cd := Int.mul_pos (by omega) (by omega)
  have t3 : 0 < ad * cd := Int.mul_pos (by omega) (by omega)
  have f1 : fitB (an * bd + bn * ad) (ad * bd) = true := fit_small (by omega) (by omega) (by omega) (by omega)
  have f2 : fitB (bn * cd + cn * bd) (bd * cd) = true := fit_small (by omega) (by omega) (by omega) (by omega)
  have f3 : fitB (an * cd + cn * ad) (ad * cd) = true := fit_small (by omega) (by omega) (by omega) (by omega)
  have f4 : fitB (an * cn) (ad * cd) = true := fit_small (by omega) (by omega) (by omega) (by omega)
  have f5 : fitB (bn * cn) (bd * cd) = true := fit_small (by omega) (by omega) (by omega) (by omega)
  have m1 := m_le (an * bd + bn * ad) (ad * bd) (by omega) (by omega)
  have m2 := m_le (bn * cd + cn * bd) (bd * cd) (by omega) (by omega)
  have n1 := mN_nonneg (an * bd + bn * ad) (ad * bd) (by omega)
  have n2 := mN_nonneg (bn * cd + cn * bd) (bd * cd) (by omega)
  have d1 := mD_pos (an * bd + bn * ad) (ad * bd) t1
  have d2 := mD_pos (bn * cd + cn * bd) (bd * cd) t2
  have d3 := mD_pos (an * cd + cn * ad) (ad * cd) t3
  have d4 := mD_pos (an * cn) (ad * cd) t3
  have d5 := mD_pos (bn * cn) (bd * cd) t2
  have r1 := r_right (by omega) t1 f1
  have r2 := r_right (by omega) t2 f2
  have r3 := r_right (by omega) t3 f3
  have r4 := r_right (by omega) t3 f4
  have r5 := r_right (by omega) t2 f5
  have x1 := m_cross (an * bd + bn * ad) (ad * bd)
  have x2 := m_cross (bn * cd + cn * bd) (bd * cd)
  have x3 := m_cross (an * cd + cn * ad) (ad * cd)
  have x4 := m_cross (an * cn) (ad * cd)
  have x5 := m_cross (bn * cn) (bd * cd)
  have y1 := r_yes f1
  have y2 := r_yes f2
  have y3 := r_yes f3
  have y4 := r_yes f4
  have y5 := r_yes f5
  generalize mN (an * bd + bn * ad) (ad * bd) = un at *
  generalize mD (an * bd + bn * ad) (ad * bd) = ud at *
  generalize mN (bn * cd + cn * bd) (bd * cd) = vn at *
  generalize mD (bn * cd + cn * bd) (bd * cd) = vd at *
  generalize mN (an * cd + cn * ad) (ad * cd) = wn at *
  generalize mD (an * cd + cn * ad) (ad * cd) = wd at *
  generalize mN (an * cn) (ad * cd) = pn at *
  generalize mD (an * cn) (ad * cd) = pd at *
  generalize mN (bn * cn) (bd * cd) = qn at *
  generalize mD (bn * cn) (bd * cd) = qd at *
  have o1 := mul_le3 n1 (by omega : un ≤ 2000000000000) (by omega : 0 ≤ cd) (by omega : cd ≤ 1000000)
  have o2 := mul_le3 c0 (by omega : cn ≤ 1000000) (by omega : 0 ≤ ud) (by omega : ud ≤ 1000000000000)
  have o3 := mul_le3 (by omega : 0 ≤ ud) (by omega : ud ≤ 1000000000000) (by omega : 0 ≤ cd) (by omega : cd ≤ 1000000)
  have o4 := mul_le3 n1 (by omega : un ≤ 2000000000000) c0 (by omega : cn ≤ 1000000)
  have z1 : 0 < ud * cd := Int.mul_pos (by omega) (by omega)
  have z2 : 0 < ad * vd := Int.mul_pos (by omega) (by omega)
  have z3 : 0 < pd * qd := Int.mul_pos (by omega) (by omega)
  have g1 : fitB (un * cd + cn * ud) (ud * cd) = true := fit_small (by omega) (by omega) (by omega) (by omega)
  have g2 : fitB (un * cn) (ud * cd) = true := fit_small (by omega) (by omega) (by omega) (by omega)
  have h1 : (un * cd + cn * ud) * (ad * vd) = (an * vd + vn * ad) * (ud * cd) := by
    have : bd * ((un * cd + cn * ud) * (ad * vd)) = bd * ((an * vd + vn * ad) * (ud * cd)) := by grind
    exact Int.eq_of_mul_eq_mul_left (by omega) this
  have h2 : (pn * qd + qn * pd) * (ud * cd) = (un * cn) * (pd * qd) := by
    have : (ad * bd * cd * cd) * ((pn * qd + qn * pd) * (ud * cd)) = (ad * bd * cd * cd) * ((un * cn) * (pd * qd)) := by grind
    have k : 0 < ad * bd * cd * cd := Int.mul_pos (Int.mul_pos t1 (by omega)) (by omega)
    exact Int.eq_of_mul_eq_mul_left (by omega) this
  have e1 := r_eq z1 z2 h1
  have e2 := r_eq z3 z1 h2
  have i1 := r_yes g1
  have i2 := r_yes g2
  have h3 : (ad * bd * cd * cd) * (wn * vd - vn * wd) = (wd * vd * cd * cd) * (an * bd - bn * ad) := by grind
  refine ⟨un, ud, vn, vd, wn, wd, _, _, pn, pd, qn, qd, _, _, ⟨y1.1, y1.2.1, y1.2.2⟩, ⟨y2.1, y2.2.1, y2.2.2⟩, ⟨y3.1, y3.2.1, y3.2.2⟩, r1, r2, r3, ⟨rfl, rfl, i1.2.2⟩, ⟨e1.1.symm, e1.2.1.symm, e1.2.2.symm.trans i1.2.2⟩, ⟨y4.1, y4.2.1, y4.2.2⟩, ⟨y5.1, y5.2.1, y5.2.2⟩, r4, r5, ⟨e2.1, e2.2.1, e2.2.2.trans i2.2.2⟩, ⟨rfl, rfl, i2.2.2⟩, ?_⟩
  exact cmpI_scale (Int.mul_pos (Int.mul_pos t1 (by omega)) (by omega)) (Int.mul_pos (Int.mul_pos (Int.mul_pos d3 d2) (by omega)) (by omega)) h3
end Go.Proofs.Ytghhnpbepilefaa
