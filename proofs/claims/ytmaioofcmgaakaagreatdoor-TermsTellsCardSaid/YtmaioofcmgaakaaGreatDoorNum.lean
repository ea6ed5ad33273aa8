/- Plain numbers: the halves of a number of 128 bits, and the number of two halves. No program in this text. -/
namespace Go.Proofs.YtmaioofcmgaakaaGreatDoor

/-- The high half, the low half, and the number of two halves. -/
def hi (n : Int) : Int := n / 18446744073709551616
def lo (n : Int) : Int := n % 18446744073709551616
def wn (h l : Int) : Int := h * 18446744073709551616 + l
/-- 2 to the 128th. -/
def top : Int := 340282366920938463463374607431768211456

theorem wn_hi_lo (n : Int) : wn (hi n) (lo n) = n := by unfold wn hi lo; omega
theorem hi_wn (h l : Int) (h0 : 0 ≤ l) (h1 : l < 18446744073709551616) : hi (wn h l) = h := by unfold wn hi; omega
theorem lo_wn (h l : Int) (h0 : 0 ≤ l) (h1 : l < 18446744073709551616) : lo (wn h l) = l := by unfold wn lo; omega
theorem lo_bd (n : Int) : 0 ≤ lo n ∧ lo n < 18446744073709551616 := by unfold lo; omega
theorem hi_bd (n : Int) (h0 : 0 ≤ n) (h1 : n < top) : 0 ≤ hi n ∧ hi n < 18446744073709551616 := by unfold hi; unfold top at h1; omega
theorem wn_bd (h l : Int) (a : 0 ≤ h) (b : h < 18446744073709551616) (c : 0 ≤ l) (d : l < 18446744073709551616) : 0 ≤ wn h l ∧ wn h l < top := by unfold wn top; omega

/-- A sum, half by half. -/
theorem add_lo (a1 a0 b1 b0 : Int) : (a0 + b0 + 0) % 18446744073709551616 = lo (wn a1 a0 + wn b1 b0) := by unfold lo wn; omega
theorem add_hi (a1 a0 b1 b0 : Int) (h0 : 0 ≤ wn a1 a0 + wn b1 b0) (h : wn a1 a0 + wn b1 b0 < top) : (a1 + b1 + (a0 + b0 + 0) / 18446744073709551616) % 18446744073709551616 = hi (wn a1 a0 + wn b1 b0) := by
  unfold hi; unfold wn top at *; omega
theorem add_fits (a1 a0 b1 b0 : Int) (h0 : 0 ≤ wn a1 a0 + wn b1 b0) (h : wn a1 a0 + wn b1 b0 < top) : (a1 + b1 + (a0 + b0 + 0) / 18446744073709551616) / 18446744073709551616 = 0 := by
  unfold wn top at *; omega
theorem add_over (a1 a0 b1 b0 : Int) (h : top ≤ wn a1 a0 + wn b1 b0) : 0 < (a1 + b1 + (a0 + b0 + 0) / 18446744073709551616) / 18446744073709551616 := by
  unfold wn top at *; omega

/-- A difference, half by half. -/
theorem sub_lo (a1 a0 b1 b0 : Int) : (a0 - b0 - 0) % 18446744073709551616 = lo (wn a1 a0 - wn b1 b0) := by unfold lo wn; omega
theorem sub_hi (a1 a0 b1 b0 : Int) (ha1 : a1 < 18446744073709551616) (hb1 : 0 ≤ b1) (ha : 0 ≤ a0) (ha' : a0 < 18446744073709551616) (hb : 0 ≤ b0) (hb' : b0 < 18446744073709551616) (h : wn b1 b0 ≤ wn a1 a0) :
    (a1 - b1 - (if a0 < b0 + 0 then 1 else 0)) % 18446744073709551616 = hi (wn a1 a0 - wn b1 b0) := by
  unfold hi; unfold wn at *; split <;> omega
theorem sub_fits (a1 a0 b1 b0 : Int) (ha' : a0 < 18446744073709551616) (hb : 0 ≤ b0) (h : wn b1 b0 ≤ wn a1 a0) :
    (if a1 < b1 + (if a0 < b0 + 0 then 1 else 0) then 1 else 0 : Int) = 0 := by
  unfold wn at *; split <;> split <;> omega
theorem sub_over (a1 a0 b1 b0 : Int) (ha : 0 ≤ a0) (hb' : b0 < 18446744073709551616) (h : wn a1 a0 < wn b1 b0) :
    0 < (if a1 < b1 + (if a0 < b0 + 0 then 1 else 0) then 1 else 0 : Int) := by
  unfold wn at *; split <;> split <;> omega

/-- A product, half by half. -/
theorem times_eq (a1 a0 n : Int) : wn a1 a0 * n = a1 * n * 18446744073709551616 + a0 * n := by
  unfold wn; rw [Int.add_mul, Int.mul_right_comm]
theorem times_lo (a1 a0 n : Int) : (a0 * n + 0) % 18446744073709551616 = lo (wn a1 a0 * n) := by
  rw [times_eq]; unfold lo; generalize a1 * n = p; generalize a0 * n = q; omega
theorem times_hi (a1 a0 n : Int) (h0 : 0 ≤ wn a1 a0 * n) (h : wn a1 a0 * n < top) : (a1 * n + (a0 * n + 0) / 18446744073709551616) % 18446744073709551616 = hi (wn a1 a0 * n) := by
  rw [times_eq] at *; unfold hi; unfold top at h; generalize a1 * n = p at *; generalize a0 * n = q at *; omega
theorem times_fits (a1 a0 n : Int) (h0 : 0 ≤ wn a1 a0 * n) (h : wn a1 a0 * n < top) : (a1 * n + (a0 * n + 0) / 18446744073709551616) / 18446744073709551616 = 0 := by
  rw [times_eq] at *; unfold top at h; generalize a1 * n = p at *; generalize a0 * n = q at *; omega
theorem times_over (a1 a0 n : Int) (h : top ≤ wn a1 a0 * n) : 0 < (a1 * n + (a0 * n + 0) / 18446744073709551616) / 18446744073709551616 := by
  rw [times_eq] at *; unfold top at h; generalize a1 * n = p at *; generalize a0 * n = q at *; omega

theorem cmp_hi (a1 a0 b1 b0 : Int) (ha : 0 ≤ a0) (ha' : a0 < 18446744073709551616) (hb : 0 ≤ b0) (hb' : b0 < 18446744073709551616) (h : a1 < b1) : wn a1 a0 < wn b1 b0 := by unfold wn; omega
theorem cmp_lo (a1 a0 b0 : Int) : (wn a1 a0 < wn a1 b0 ↔ a0 < b0) ∧ (wn a1 a0 = wn a1 b0 ↔ a0 = b0) := by unfold wn; omega
end Go.Proofs.YtmaioofcmgaakaaGreatDoor
