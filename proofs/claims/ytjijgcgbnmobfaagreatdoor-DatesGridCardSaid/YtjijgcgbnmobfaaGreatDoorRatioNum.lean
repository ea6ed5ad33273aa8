/- Plain numbers: what divides two, and fractions in lowest terms. No program in this text. -/
namespace Go.Proofs.YtjijgcgbnmobfaaGreatDoor

/-- What divides both. -/
def gi (a b : Int) : Int := (Int.gcd a b : Int)
theorem gi_comm (a b : Int) : gi a b = gi b a := by unfold gi; rw [Int.gcd_comm]
theorem gi_zero (a : Int) (h : 0 ≤ a) : gi a 0 = a := by unfold gi; rw [Int.gcd_zero_right]; omega
theorem gi_self (a : Int) (h : 0 ≤ a) : gi a a = a := by unfold gi; rw [Int.gcd_self]; omega
theorem gi_nat (m n : Nat) : gi (m : Int) (n : Int) = (Nat.gcd m n : Int) := rfl
theorem gi_nonneg (a b : Int) : 0 ≤ gi a b := by unfold gi; omega
theorem gi_step (a b : Int) (ha : 0 ≤ a) (hb : 0 ≤ b) : gi b (a % b) = gi a b := by
  obtain ⟨m, rfl⟩ := Int.eq_ofNat_of_zero_le ha
  obtain ⟨n, rfl⟩ := Int.eq_ofNat_of_zero_le hb
  rw [← Int.natCast_emod, gi_nat, gi_nat, Nat.gcd_comm m n, Nat.gcd_rec n m, Nat.gcd_comm]
theorem gi_dvd_l (a b : Int) : gi a b ∣ a := Int.gcd_dvd_left a b
theorem gi_dvd_r (a b : Int) : gi a b ∣ b := Int.gcd_dvd_right a b
theorem gi_pos (a b : Int) (h : 0 < a ∨ 0 < b) : 0 < gi a b := by
  unfold gi
  have : 0 < Int.gcd a b := Int.gcd_pos_iff.2 (by omega)
  omega
theorem gi_le_l (a b : Int) (h : 0 < a) : gi a b ≤ a := Int.le_of_dvd h (gi_dvd_l a b)
theorem gi_le_r (a b : Int) (h : 0 < b) : gi a b ≤ b := Int.le_of_dvd h (gi_dvd_r a b)
theorem gi_bd (a b c : Int) (ha : 0 ≤ a) (hb : 0 ≤ b) (ha' : a < c) (hb' : b < c) : 0 ≤ gi a b ∧ gi a b < c := by
  refine ⟨gi_nonneg a b, ?_⟩
  by_cases h : 0 < a
  · have := gi_le_l a b h; omega
  · by_cases h' : 0 < b
    · have := gi_le_r a b h'; omega
    · obtain rfl : a = 0 := by omega
      obtain rfl : b = 0 := by omega
      rw [gi_zero 0 (by omega)]; omega

/-- A fraction in lowest terms: its two numbers. -/
def mN (n d : Int) : Int := n / gi n d
def mD (n d : Int) : Int := d / gi n d
theorem mN_mul (n d : Int) : gi n d * mN n d = n := Int.mul_ediv_cancel' (gi_dvd_l n d)
theorem mD_mul (n d : Int) : gi n d * mD n d = d := Int.mul_ediv_cancel' (gi_dvd_r n d)
theorem mN_nonneg (n d : Int) (h : 0 ≤ n) : 0 ≤ mN n d := Int.ediv_nonneg h (gi_nonneg n d)
theorem mD_pos (n d : Int) (h : 0 < d) : 0 < mD n d := by
  have h1 := mD_mul n d
  have h2 := gi_nonneg n d
  by_cases k : 0 < mD n d
  · exact k
  · have : gi n d * mD n d ≤ 0 := Int.mul_nonpos_of_nonneg_of_nonpos h2 (by omega)
    omega
theorem m_cross (n d : Int) : mN n d * d = n * mD n d := by
  have h1 := mN_mul n d
  have h2 := mD_mul n d
  grind
theorem m_self (n d : Int) (h : gi n d = 1) : mN n d = n ∧ mD n d = d := by
  unfold mN mD; rw [h]; exact ⟨Int.ediv_one n, Int.ediv_one d⟩
theorem gi_scale (k n d : Int) (h : 0 ≤ k) : gi (k * n) (k * d) = k * gi n d := by
  unfold gi; rw [Int.gcd_mul_left]
  have : ((k.natAbs : Nat) : Int) = k := Int.natAbs_of_nonneg h
  rw [Int.natCast_mul, this]
theorem m_scale (k n d : Int) (h : 0 < k) : mN (k * n) (k * d) = mN n d ∧ mD (k * n) (k * d) = mD n d := by
  unfold mN mD; rw [gi_scale k n d (by omega)]
  exact ⟨Int.mul_ediv_mul_of_pos _ _ h, Int.mul_ediv_mul_of_pos _ _ h⟩
theorem m_eq {n d n' d' : Int} (hd : 0 < d) (hd' : 0 < d') (h : n * d' = n' * d) : mN n d = mN n' d' ∧ mD n d = mD n' d' := by
  have a := m_scale d' n d hd'
  have b := m_scale d n' d' hd
  have e1 : d' * n = d * n' := by grind
  have e2 : d' * d = d * d' := Int.mul_comm _ _
  rw [e1, e2] at a
  exact ⟨a.1.symm.trans b.1, a.2.symm.trans b.2⟩
theorem m_one (n d : Int) (h : 0 < n ∨ 0 < d) : gi (mN n d) (mD n d) = 1 := by
  have p := gi_pos n d h
  have e := gi_scale (gi n d) (mN n d) (mD n d) (by omega)
  rw [mN_mul, mD_mul] at e
  have : gi n d * (gi (mN n d) (mD n d) - 1) = 0 := by grind
  rcases Int.mul_eq_zero.1 this with h | h <;> omega
theorem m_le (n d : Int) (hn : 0 ≤ n) (hd : 0 ≤ d) : mN n d ≤ n ∧ mD n d ≤ d := ⟨Int.ediv_le_self _ hn, Int.ediv_le_self _ hd⟩

/-- May a fraction's two numbers be told? -/
def fitB (n d : Int) : Bool := decide (mN n d ≤ 4611686018427387904) && decide (mD n d ≤ 4611686018427387904)
/-- What is told of a fraction: two numbers, and a code. -/
def rN (n d : Int) : Int := if fitB n d = true then mN n d else 0
def rD (n d : Int) : Int := if fitB n d = true then mD n d else 0
def rE (n d : Int) : Int := if fitB n d = true then 0 else 6
theorem fit_iff (n d : Int) : fitB n d = true ↔ mN n d ≤ 4611686018427387904 ∧ mD n d ≤ 4611686018427387904 := by unfold fitB; simp
theorem r_yes {n d : Int} (h : fitB n d = true) : rN n d = mN n d ∧ rD n d = mD n d ∧ rE n d = 0 := by unfold rN rD rE; simp [h]
theorem r_no {n d : Int} (h : ¬ fitB n d = true) : rN n d = 0 ∧ rD n d = 0 ∧ rE n d = 6 := by unfold rN rD rE; simp [h]
theorem rE_zero {n d : Int} : rE n d = 0 ↔ fitB n d = true := by
  by_cases h : fitB n d = true
  · simp [r_yes h, h]
  · simp [r_no h, h]
theorem r_eq {n d n' d' : Int} (hd : 0 < d) (hd' : 0 < d') (h : n * d' = n' * d) : rN n d = rN n' d' ∧ rD n d = rD n' d' ∧ rE n d = rE n' d' := by
  have ⟨a, b⟩ := m_eq hd hd' h
  unfold rN rD rE fitB; rw [a, b]; exact ⟨rfl, rfl, rfl⟩
theorem r_bd (n d : Int) (hn : 0 ≤ n) (hd : 0 < d) : 0 ≤ rN n d ∧ rN n d ≤ 4611686018427387904 ∧ 0 ≤ rD n d ∧ rD n d ≤ 4611686018427387904 ∧ (rE n d = 0 ∨ rE n d = 6) := by
  have h1 := mN_nonneg n d hn
  have h2 := mD_pos n d hd
  by_cases h : fitB n d = true
  · have k := (fit_iff n d).1 h
    have ⟨a, b, c⟩ := r_yes h
    rw [a, b, c]; omega
  · have ⟨a, b, c⟩ := r_no h
    rw [a, b, c]; omega

/-- Is a fraction right? -/
def rightB (n d : Int) : Bool := decide (0 ≤ n ∧ n ≤ 4611686018427387904 ∧ 1 ≤ d ∧ d ≤ 4611686018427387904 ∧ gi n d = 1)
theorem right_iff (n d : Int) : rightB n d = true ↔ 0 ≤ n ∧ n ≤ 4611686018427387904 ∧ 1 ≤ d ∧ d ≤ 4611686018427387904 ∧ gi n d = 1 := by unfold rightB; simp
theorem r_right {n d : Int} (hn : 0 ≤ n) (hd : 0 < d) (h : fitB n d = true) : rightB (mN n d) (mD n d) = true := by
  have k := (fit_iff n d).1 h
  have h2 := mD_pos n d hd
  exact (right_iff _ _).2 ⟨mN_nonneg n d hn, k.1, by omega, k.2, m_one n d (Or.inr hd)⟩
theorem r_self {n d : Int} (h : rightB n d = true) : rN n d = n ∧ rD n d = d ∧ rE n d = 0 := by
  have k := (right_iff n d).1 h
  have ⟨a, b⟩ := m_self n d k.2.2.2.2
  have f : fitB n d = true := (fit_iff n d).2 (by rw [a, b]; omega)
  have ⟨p, q, r⟩ := r_yes f
  rw [p, q, r, a, b]; exact ⟨rfl, rfl, rfl⟩

/-- Nothing above 1 divides both: by natural numbers. -/
theorem gi_one {a b : Int} (ha : 0 ≤ a) (hb : 0 ≤ b) : gi a b = 1 ↔ Nat.Coprime a.toNat b.toNat := by
  obtain ⟨m, rfl⟩ := Int.eq_ofNat_of_zero_le ha
  obtain ⟨n, rfl⟩ := Int.eq_ofNat_of_zero_le hb
  rw [gi_nat, Int.toNat_natCast, Int.toNat_natCast]; unfold Nat.Coprime; omega
theorem cop {a b : Int} (h : gi a b = 1) : Nat.Coprime a.natAbs b.natAbs := by
  unfold gi Int.gcd at h; unfold Nat.Coprime; omega
theorem uncop {a b : Int} (h : Nat.Coprime a.natAbs b.natAbs) : gi a b = 1 := by
  unfold gi Int.gcd; unfold Nat.Coprime at h; omega
theorem one_mul_r {a b c : Int} (h1 : gi a b = 1) (h2 : gi a c = 1) : gi a (b * c) = 1 := by
  apply uncop; rw [Int.natAbs_mul]; exact Nat.Coprime.mul_right (cop h1) (cop h2)
theorem one_mul_l {a b c : Int} (h1 : gi a c = 1) (h2 : gi b c = 1) : gi (a * b) c = 1 := by
  rw [gi_comm]; exact one_mul_r (by rw [gi_comm]; exact h1) (by rw [gi_comm]; exact h2)
theorem one_dvd_r {a b c : Int} (h : gi a b = 1) (hc : c ∣ b) : gi a c = 1 := by
  exact uncop (Nat.Coprime.coprime_dvd_right (Int.natAbs_dvd_natAbs.2 hc) (cop h))
theorem one_dvd_l {a b c : Int} (h : gi a b = 1) (hc : c ∣ a) : gi c b = 1 := by
  rw [gi_comm]; exact one_dvd_r (by rw [gi_comm]; exact h) hc
theorem one_add {a b k : Int} (h : gi a b = 1) : gi (a + k * b) b = 1 := by
  unfold gi at *; rw [Int.gcd_add_mul_right_left]; exact h
theorem gi_mul_one {a b c : Int} (h : gi a b = 1) : gi a (b * c) = gi a c := by
  have := Nat.Coprime.gcd_mul_left_cancel_right c.natAbs (Nat.Coprime.symm (cop h))
  unfold gi Int.gcd; rw [Int.natAbs_mul, this]
end Go.Proofs.YtjijgcgbnmobfaaGreatDoor
