/- The arithmetic of a division by parts of 32 bits: a digit that is guessed, and lowered till it fits. No program in this text. -/
namespace Go.Proofs.YtmaioofcmgaakaaGreatDoor

/-- The guess q is no less than the digit; r is what it leaves of u. -/
def KInv (u d y1 y0 q r : Int) : Prop :=
  0 ≤ q ∧ q ≤ 4294967297 ∧ r = u - q * y1 ∧ 0 ≤ r ∧ r ≤ 4294967295 ∧ u * 4294967296 + d < (q + 1) * (y1 * 4294967296 + y0)
/-- q is the digit. -/
def KFin (u d y1 y0 q : Int) : Prop :=
  0 ≤ q ∧ q * (y1 * 4294967296 + y0) ≤ u * 4294967296 + d ∧ u * 4294967296 + d < (q + 1) * (y1 * 4294967296 + y0)

theorem k_mul (q y1 y0 : Int) : q * (y1 * 4294967296 + y0) = q * y1 * 4294967296 + q * y0 := by rw [Int.mul_add, Int.mul_assoc]
theorem k_mul1 (q y1 y0 : Int) : (q + 1) * (y1 * 4294967296 + y0) = q * y1 * 4294967296 + q * y0 + y1 * 4294967296 + y0 := by
  rw [Int.add_mul, k_mul, Int.one_mul, Int.add_assoc, Int.add_assoc]; omega

theorem k_start (u d y1 y0 : Int) (a1 : 2147483648 ≤ y1) (a2 : y1 ≤ 4294967295) (a3 : 0 ≤ y0) (a4 : y0 ≤ 4294967295) (b1 : 0 ≤ u) (b2 : u < y1 * 4294967296 + y0) (c2 : d ≤ 4294967295) :
    KInv u d y1 y0 (u / y1) (u - u / y1 * y1) := by
  have e := Int.mul_ediv_add_emod u y1
  have m0 := Int.emod_nonneg u (show y1 ≠ 0 by omega)
  have m1 := Int.emod_lt_of_pos u (show 0 < y1 by omega)
  have q0 : 0 ≤ u / y1 := Int.ediv_nonneg b1 (by omega)
  have q1 : u / y1 ≤ 4294967297 := by
    have : u / y1 < 4294967298 := Int.ediv_lt_of_lt_mul (by omega) (by omega)
    omega
  refine ⟨q0, q1, rfl, ?_, ?_, ?_⟩
  · rw [Int.mul_comm] at e; omega
  · rw [Int.mul_comm] at e; omega
  · rw [k_mul1]
    have p0 : 0 ≤ u / y1 * y0 := Int.mul_nonneg q0 a3
    rw [Int.mul_comm] at e
    generalize u / y1 * y1 = A at *
    generalize u / y1 * y0 = B at *
    omega

/-- Too great a guess: it is above 0, and one less is no less than the digit. -/
theorem k_great (u d y1 y0 q r : Int) (b1 : 0 ≤ u) (b2 : u < y1 * 4294967296 + y0) (c1 : 0 ≤ d) (c2 : d ≤ 4294967295)
    (h : KInv u d y1 y0 q r) (t : 4294967296 ≤ q ∨ 4294967296 * r + d < q * y0) : 1 ≤ q ∧ u * 4294967296 + d < q * (y1 * 4294967296 + y0) := by
  obtain ⟨h1, h2, h3, h4, h5, h6⟩ := h
  have key : u * 4294967296 + d < q * (y1 * 4294967296 + y0) := by
    rcases t with t | t
    · have : 4294967296 * (y1 * 4294967296 + y0) ≤ q * (y1 * 4294967296 + y0) := Int.mul_le_mul_of_nonneg_right t (by omega)
      omega
    · rw [k_mul]
      generalize q * y1 = A at *
      generalize q * y0 = B at *
      omega
  refine ⟨?_, key⟩
  by_cases hq : 1 ≤ q
  · exact hq
  · have : q = 0 := by omega
    subst this
    rw [Int.zero_mul] at key
    omega

theorem k_more (u d y1 y0 q r : Int) (a1 : 2147483648 ≤ y1) (b1 : 0 ≤ u) (b2 : u < y1 * 4294967296 + y0) (c1 : 0 ≤ d) (c2 : d ≤ 4294967295)
    (h : KInv u d y1 y0 q r) (t : 4294967296 ≤ q ∨ 4294967296 * r + d < q * y0) (hr : r + y1 ≤ 4294967295) : KInv u d y1 y0 (q - 1) (r + y1) := by
  obtain ⟨g1, g2⟩ := k_great u d y1 y0 q r b1 b2 c1 c2 h t
  obtain ⟨h1, h2, h3, h4, h5, h6⟩ := h
  refine ⟨by omega, by omega, ?_, by omega, hr, ?_⟩
  · rw [Int.sub_mul, Int.one_mul]; omega
  · rw [show q - 1 + 1 = q by omega]; exact g2

theorem k_break (u d y1 y0 q r : Int) (a3 : 0 ≤ y0) (a4 : y0 ≤ 4294967295) (b1 : 0 ≤ u) (b2 : u < y1 * 4294967296 + y0) (c1 : 0 ≤ d) (c2 : d ≤ 4294967295)
    (h : KInv u d y1 y0 q r) (t : 4294967296 ≤ q ∨ 4294967296 * r + d < q * y0) (hr : 4294967296 ≤ r + y1) : KFin u d y1 y0 (q - 1) := by
  obtain ⟨g1, g2⟩ := k_great u d y1 y0 q r b1 b2 c1 c2 h t
  obtain ⟨h1, h2, h3, h4, h5, h6⟩ := h
  refine ⟨by omega, ?_, ?_⟩
  · have p : (q - 1) * y0 ≤ 4294967296 * 4294967295 := Int.mul_le_mul (by omega) a4 a3 (by omega)
    rw [k_mul, Int.sub_mul q 1 y1, Int.one_mul]
    generalize q * y1 = A at *
    generalize (q - 1) * y0 = B at *
    omega
  · rw [show q - 1 + 1 = q by omega]; exact g2

theorem k_stop (u d y1 y0 q r : Int) (h : KInv u d y1 y0 q r) (t : q * y0 ≤ 4294967296 * r + d) : KFin u d y1 y0 q := by
  obtain ⟨h1, h2, h3, h4, h5, h6⟩ := h
  refine ⟨h1, ?_, h6⟩
  rw [k_mul]
  generalize q * y1 = A at *
  generalize q * y0 = B at *
  omega

/-- The digit is below 2^32, is the quotient, and leaves the rest. -/
theorem k_fin (u d y1 y0 q : Int) (a1 : 2147483648 ≤ y1) (a3 : 0 ≤ y0) (b2 : u < y1 * 4294967296 + y0) (c2 : d ≤ 4294967295) (h : KFin u d y1 y0 q) :
    q ≤ 4294967295 ∧ q = (u * 4294967296 + d) / (y1 * 4294967296 + y0) ∧ u * 4294967296 + d - q * (y1 * 4294967296 + y0) = (u * 4294967296 + d) % (y1 * 4294967296 + y0) := by
  obtain ⟨h1, h2, h3⟩ := h
  have hp : 0 < y1 * 4294967296 + y0 := by omega
  have hq : q = (u * 4294967296 + d) / (y1 * 4294967296 + y0) := by
    have e1 : q ≤ (u * 4294967296 + d) / (y1 * 4294967296 + y0) := (Int.le_ediv_iff_mul_le hp).2 h2
    have e2 : (u * 4294967296 + d) / (y1 * 4294967296 + y0) < q + 1 := Int.ediv_lt_of_lt_mul hp h3
    omega
  refine ⟨?_, hq, ?_⟩
  · have : q < 4294967296 := by
      rw [hq]
      exact Int.ediv_lt_of_lt_mul hp (by omega)
    omega
  · rw [Int.emod_def, ← hq, Int.mul_comm q]
end Go.Proofs.YtmaioofcmgaakaaGreatDoor
