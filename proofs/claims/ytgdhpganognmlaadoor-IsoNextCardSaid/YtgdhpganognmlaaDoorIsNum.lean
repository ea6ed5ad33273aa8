/- Plain texts: digits, a day's text, what a text is as a day; the order of texts. No program in this text. -/
import Derived.Test.YtgdhpganognmlaaDoorCivilB
namespace Go.Proofs.YtgdhpganognmlaaDoor
set_option linter.unusedVariables false
set_option linter.unusedSimpArgs false

/-- A digit's byte: of the last digit of a number. -/
def dg (n : Int) : UInt8 := UInt8.ofNat (48 + (n % 10).toNat)
theorem dg_nat (n : Int) : (dg n).toNat = 48 + (n % 10).toNat := by
  unfold dg
  rw [UInt8.toNat_ofNat']
  omega
/-- The last k digits of a number. -/
def digs (n : Int) : Nat → List UInt8
  | 0 => []
  | k + 1 => dg (n / 10 ^ k) :: digs n k
theorem digs_len (n : Int) : ∀ k, (digs n k).length = k
  | 0 => rfl
  | k + 1 => by simp [digs, digs_len n k]
/-- A day's text. -/
def txt (y m d : Int) : List UInt8 := digs y 4 ++ 45 :: (digs m 2 ++ 45 :: digs d 2)
theorem txt_eq (y m d : Int) : txt y m d = [dg (y / 1000), dg (y / 100), dg (y / 10), dg y, 45, dg (m / 10), dg m, 45, dg (d / 10), dg d] := by
  simp [txt, digs]
theorem txt_len (y m d : Int) : (txt y m d).length = 10 := by rw [txt_eq]; rfl
/-- Is a byte a digit? -/
def isd (b : UInt8) : Bool := decide (48 ≤ b.toNat ∧ b.toNat ≤ 57)
/-- A digit's value. -/
def dv (b : UInt8) : Int := (b.toNat : Int) - 48
theorem dg_isd (n : Int) : isd (dg n) = true := by unfold isd; rw [dg_nat]; simp; omega
theorem dv_dg (n : Int) : dv (dg n) = n % 10 := by unfold dv; rw [dg_nat]; omega
theorem dv_bd (b : UInt8) (h : isd b = true) : 0 ≤ dv b ∧ dv b ≤ 9 := by
  unfold isd at h; unfold dv; simp at h; omega
theorem dg_dv (n : Int) (b : UInt8) (h : isd b = true) (hn : n % 10 = dv b) : dg n = b := by
  apply UInt8.toNat_inj.1
  rw [dg_nat, hn]
  have := dv_bd b h
  unfold dv at *
  omega
def v4 (a b c d : UInt8) : Int := 1000 * dv a + 100 * dv b + 10 * dv c + dv d
def v2 (a b : UInt8) : Int := 10 * dv a + dv b
/-- What is told of a text: a number and a code. -/
def ReadIs (l : List UInt8) (n e : Int) : Prop :=
  (∃ a b c d f g i j : UInt8, l = [a, b, c, d, 45, f, g, 45, i, j] ∧ (isd a && isd b && isd c && isd d && isd f && isd g && isd i && isd j) = true ∧
    n = nN (v4 a b c d) (v2 f g) (v2 i j) ∧ e = nE (v4 a b c d) (v2 f g) (v2 i j)) ∨
  ((∀ a b c d f g i j : UInt8, l = [a, b, c, d, 45, f, g, 45, i, j] → (isd a && isd b && isd c && isd d && isd f && isd g && isd i && isd j) = false) ∧ n = 0 ∧ e = 10)
theorem read_is (l : List UInt8) : ∃ n e, ReadIs l n e := by
  by_cases h : ∃ a b c d f g i j : UInt8, l = [a, b, c, d, 45, f, g, 45, i, j] ∧ (isd a && isd b && isd c && isd d && isd f && isd g && isd i && isd j) = true
  · obtain ⟨a, b, c, d, f, g, i, j, h1, h2⟩ := h
    exact ⟨_, _, Or.inl ⟨a, b, c, d, f, g, i, j, h1, h2, rfl, rfl⟩⟩
  · refine ⟨0, 10, Or.inr ⟨fun a b c d f g i j hl => ?_, rfl, rfl⟩⟩
    cases hh : (isd a && isd b && isd c && isd d && isd f && isd g && isd i && isd j)
    · rfl
    · exact absurd ⟨a, b, c, d, f, g, i, j, hl, hh⟩ h
/-- What is shown of a number: a text and a code. -/
def ShowIs (n : Int) (l : List UInt8) (c : Int) : Prop := (∃ y m d : Int, may y m d ∧ nb y m d = n ∧ txt y m d = l ∧ c = 0) ∨ ((n < 1 ∨ 3652059 < n) ∧ l = [] ∧ c = 3)
theorem show_in {n : Int} {l : List UInt8} (y m d : Int) (h : may y m d) (hn : nb y m d = n) (hl : txt y m d = l) : ShowIs n l 0 := Or.inl ⟨y, m, d, h, hn, hl, rfl⟩
theorem show_out {n : Int} (h : n < 1 ∨ 3652059 < n) : ShowIs n [] 3 := Or.inr ⟨h, rfl, rfl⟩
theorem show_is (n : Int) : ∃ l c, ShowIs n l c := by
  by_cases h : n < 1 ∨ 3652059 < n
  · exact ⟨[], 3, show_out h⟩
  · obtain ⟨y, m, d, h1, h2⟩ := day_of n (by omega) (by omega)
    exact ⟨_, 0, show_in y m d h1 h2 rfl⟩
theorem may_bd {y m d : Int} (h : may y m d) : 0 ≤ y ∧ y ≤ 9999 ∧ 0 ≤ m ∧ m ≤ 99 ∧ 0 ≤ d ∧ d ≤ 99 := by
  obtain ⟨a1, a2, a3, a4, a5, a6⟩ := h
  have := ln_le y m
  omega
theorem v4_txt (y : Int) (h1 : 0 ≤ y) (h2 : y ≤ 9999) : v4 (dg (y / 1000)) (dg (y / 100)) (dg (y / 10)) (dg y) = y := by
  unfold v4; rw [dv_dg, dv_dg, dv_dg, dv_dg]; omega
theorem v2_txt (m : Int) (h1 : 0 ≤ m) (h2 : m ≤ 99) : v2 (dg (m / 10)) (dg m) = m := by
  unfold v2; rw [dv_dg, dv_dg]; omega
/-- A text of three numbers is read as these. -/
theorem read_txt (y m d : Int) (y1 : 0 ≤ y) (y2 : y ≤ 9999) (m1 : 0 ≤ m) (m2 : m ≤ 99) (d1 : 0 ≤ d) (d2 : d ≤ 99) : ReadIs (txt y m d) (nN y m d) (nE y m d) := by
  refine Or.inl ⟨_, _, _, _, _, _, _, _, txt_eq y m d, ?_, ?_, ?_⟩
  · simp [dg_isd]
  · rw [v4_txt y y1 y2, v2_txt m m1 m2, v2_txt d d1 d2]
  · rw [v4_txt y y1 y2, v2_txt m m1 m2, v2_txt d d1 d2]
/-- What is read is just what is shown. -/
theorem txt_read (l : List UInt8) (n : Int) (h : ReadIs l n 0) : ∃ y m d, may y m d ∧ nb y m d = n ∧ txt y m d = l := by
  rcases h with ⟨a, b, c, d, f, g, i, j, rfl, hd, hn, he⟩ | ⟨-, -, h⟩
  · simp only [Bool.and_eq_true] at hd
    obtain ⟨⟨⟨⟨⟨⟨⟨a1, b1⟩, c1⟩, d1⟩, f1⟩, g1⟩, i1⟩, j1⟩ := hd
    have hm : may (v4 a b c d) (v2 f g) (v2 i j) := by
      by_cases hm : may (v4 a b c d) (v2 f g) (v2 i j)
      · exact hm
      · have := (n_no hm).2; omega
    refine ⟨_, _, _, hm, ?_, ?_⟩
    · rw [hn, (n_yes hm).1]
    · have A := dv_bd a a1
      have B := dv_bd b b1
      have C := dv_bd c c1
      have D := dv_bd d d1
      have F := dv_bd f f1
      have G := dv_bd g g1
      have I := dv_bd i i1
      have J := dv_bd j j1
      rw [txt_eq]
      unfold v4 v2
      rw [dg_dv _ a a1 (by omega), dg_dv _ b b1 (by omega), dg_dv _ c c1 (by omega), dg_dv _ d d1 (by omega), dg_dv _ f f1 (by omega), dg_dv _ g g1 (by omega), dg_dv _ i i1 (by omega), dg_dv _ j j1 (by omega)]
  · omega
theorem txt_inj (y m d y' m' d' : Int) (y1 : 0 ≤ y) (y2 : y ≤ 9999) (m1 : 0 ≤ m) (m2 : m ≤ 99) (d1 : 0 ≤ d) (d2 : d ≤ 99) (Y1 : 0 ≤ y') (Y2 : y' ≤ 9999) (M1 : 0 ≤ m') (M2 : m' ≤ 99) (D1 : 0 ≤ d') (D2 : d' ≤ 99)
    (h : txt y m d = txt y' m' d') : y = y' ∧ m = m' ∧ d = d' := by
  rw [txt_eq, txt_eq] at h
  simp only [List.cons.injEq, true_and, and_true] at h
  obtain ⟨a, b, c, e, f, g, i, j⟩ := h
  have k : ∀ p q : Int, dg p = dg q → p % 10 = q % 10 := fun p q h => by rw [← dv_dg, ← dv_dg, h]
  have := k _ _ a
  have := k _ _ b
  have := k _ _ c
  have := k _ _ e
  have := k _ _ f
  have := k _ _ g
  have := k _ _ i
  have := k _ _ j
  omega
theorem dg_lt (p q : Int) : dg p < dg q ↔ p % 10 < q % 10 := by
  rw [UInt8.lt_iff_toNat_lt, dg_nat, dg_nat]; omega
theorem dg_eq (p q : Int) : dg p = dg q ↔ p % 10 = q % 10 := by
  rw [← UInt8.toNat_inj, dg_nat, dg_nat]; omega
/-- Texts stand in the order of their numbers, byte by byte. -/
theorem txt_less (y m d y' m' d' : Int) (y1 : 0 ≤ y) (y2 : y ≤ 9999) (m1 : 0 ≤ m) (m2 : m ≤ 99) (d1 : 0 ≤ d) (d2 : d ≤ 99) (Y1 : 0 ≤ y') (Y2 : y' ≤ 9999) (M1 : 0 ≤ m') (M2 : m' ≤ 99) (D1 : 0 ≤ d') (D2 : d' ≤ 99) :
    Op.bytesLess (txt y m d) (txt y' m' d') = true ↔ (y < y' ∨ y = y' ∧ (m < m' ∨ m = m' ∧ d < d')) := by
  rw [txt_eq, txt_eq]
  simp only [Op.bytesLess, Bool.or_eq_true, Bool.and_eq_true, decide_eq_true_eq, beq_iff_eq, dg_lt, dg_eq, Bool.false_eq_true, and_false, or_false, true_and]
  have h45 : ¬ ((45 : UInt8) < 45) := by decide
  simp only [h45, false_or]
  have p4 : ∀ z : Int, 0 ≤ z → z ≤ 9999 → ∃ a b c e : Int, z = 1000 * a + 100 * b + 10 * c + e ∧ 0 ≤ a ∧ a ≤ 9 ∧ 0 ≤ b ∧ b ≤ 9 ∧ 0 ≤ c ∧ c ≤ 9 ∧ 0 ≤ e ∧ e ≤ 9 ∧ z / 1000 % 10 = a ∧ z / 100 % 10 = b ∧ z / 10 % 10 = c ∧ z % 10 = e :=
    fun z z1 z2 => ⟨z / 1000 % 10, z / 100 % 10, z / 10 % 10, z % 10, by omega, by omega, by omega, by omega, by omega, by omega, by omega, by omega, by omega, rfl, rfl, rfl, rfl⟩
  have p2 : ∀ z : Int, 0 ≤ z → z ≤ 99 → ∃ c e : Int, z = 10 * c + e ∧ 0 ≤ c ∧ c ≤ 9 ∧ 0 ≤ e ∧ e ≤ 9 ∧ z / 10 % 10 = c ∧ z % 10 = e :=
    fun z z1 z2 => ⟨z / 10 % 10, z % 10, by omega, by omega, by omega, by omega, by omega, rfl, rfl⟩
  obtain ⟨a, b, c, e, hy, a1, a2, b1, b2, c1, c2, e1, e2, q1, q2, q3, q4⟩ := p4 y y1 y2
  obtain ⟨a', b', c', e', hy', a1', a2', b1', b2', c1', c2', e1', e2', q1', q2', q3', q4'⟩ := p4 y' Y1 Y2
  obtain ⟨f, g, hm, f1, f2, g1, g2, r1, r2⟩ := p2 m m1 m2
  obtain ⟨f', g', hm', f1', f2', g1', g2', r1', r2'⟩ := p2 m' M1 M2
  obtain ⟨i, j, hd, i1, i2, j1, j2, s1, s2⟩ := p2 d d1 d2
  obtain ⟨i', j', hd', i1', i2', j1', j2', s1', s2'⟩ := p2 d' D1 D2
  rw [q1, q2, q3, q4, q1', q2', q3', q4', r1, r2, r1', r2', s1, s2, s1', s2']
  clear q1 q2 q3 q4 q1' q2' q3' q4' r1 r2 r1' r2' s1 s2 s1' s2'
  have hY : y < y' ↔ (a < a' ∨ a = a' ∧ (b < b' ∨ b = b' ∧ (c < c' ∨ c = c' ∧ e < e'))) := by omega
  have hYe : y = y' ↔ (a = a' ∧ b = b' ∧ c = c' ∧ e = e') := by omega
  have hM : m < m' ↔ (f < f' ∨ f = f' ∧ g < g') := by omega
  have hMe : m = m' ↔ (f = f' ∧ g = g') := by omega
  have hD : d < d' ↔ (i < i' ∨ i = i' ∧ j < j') := by omega
  rw [hY, hYe, hM, hMe, hD]
  clear hY hYe hM hMe hD hy hy' hm hm' hd hd' p4 p2
  constructor <;> (intro h; omega)
end Go.Proofs.YtgdhpganognmlaaDoor
