/- Plain numbers of layer 9: parts of periods as rational numbers, and their sums in lowest terms. -/
import Derived.Test.YtcplfgmajbadmaaDoorRatioNum
namespace Go.Proofs.YtcplfgmajbadmaaDoor
set_option linter.unusedVariables false
set_option linter.unusedSimpArgs false

theorem rat_parts (n d : Int) (hd : 0 < d) : mN n d = ((n : Rat) / (d : Rat)).num ∧ mD n d = (((n : Rat) / (d : Rat)).den : Int) := by
  rw [← Rat.divInt_eq_div, Rat.num_divInt, Rat.den_divInt]
  have hs : d.sign = 1 := Int.sign_eq_one_of_pos hd
  have hn : ¬ d = 0 := by omega
  rw [hs, Int.one_mul, if_neg hn]
  unfold mN mD gi
  rw [Int.gcd_comm n d]
  refine ⟨rfl, ?_⟩
  rw [Int.natCast_ediv, Int.natAbs_of_nonneg (Int.le_of_lt hd)]
theorem rat_gi (x : Rat) : gi x.num x.den = 1 := uncop (by simpa using x.reduced)
theorem rat_den (x : Rat) : (1 : Int) ≤ x.den := by
  have := Nat.pos_of_ne_zero x.den_nz
  omega
theorem rat_add (x y : Rat) : mN (x.num * y.den + y.num * x.den) (x.den * y.den) = (x + y).num ∧ mD (x.num * y.den + y.num * x.den) (x.den * y.den) = ((x + y).den : Int) := by
  have hx := rat_den x
  have hy := rat_den y
  have h := rat_parts (x.num * y.den + y.num * x.den) (x.den * y.den) (Int.mul_pos (by omega) (by omega))
  have e : ((x.num * y.den + y.num * x.den : Int) : Rat) / ((x.den * y.den : Int) : Rat) = x + y := by
    rw [← Rat.divInt_eq_div, Rat.add_def', ← Rat.divInt_ofNat]
    congr 1
  rw [e] at h
  exact h
theorem rat_mul (x y : Rat) : mN (x.num * y.num) (x.den * y.den) = (x * y).num ∧ mD (x.num * y.num) (x.den * y.den) = ((x * y).den : Int) := by
  have hx := rat_den x
  have hy := rat_den y
  have h := rat_parts (x.num * y.num) (x.den * y.den) (Int.mul_pos (by omega) (by omega))
  have e : ((x.num * y.num : Int) : Rat) / ((x.den * y.den : Int) : Rat) = x * y := by
    rw [← Rat.divInt_eq_div, Rat.mul_def', ← Rat.divInt_ofNat]
    congr 1
  rw [e] at h
  exact h
/-- A rational that is a fraction of numbers that fit is right, in its own terms. -/
theorem rat_right {x : Rat} {n d : Int} (hd : 0 < d) (hx : x = (n : Rat) / (d : Rat)) (hn : 0 ≤ n) (h1 : n ≤ 4611686018427387904) (h2 : d ≤ 4611686018427387904) : rightB x.num x.den = true := by
  have h := rat_parts n d hd
  rw [← hx] at h
  have k := m_le n d hn (by omega)
  have k0 := mN_nonneg n d hn
  have k1 := mD_pos n d hd
  rw [right_iff, ← h.1, ← h.2]
  refine ⟨k0, by omega, by omega, by omega, ?_⟩
  rw [h.1, h.2]
  exact rat_gi x

/-- So much of a period is ahead of a day. -/
def tm (x y t : Int) : Rat := if x < y then ((min (max t x) y - x : Int) : Rat) / ((y - x : Int) : Rat) else 0
/-- So many periods are ahead of a day. -/
def pos (X : Nat → Int) : Nat → Int → Rat
  | 0, _ => 0
  | n + 1, t => pos X n t + tm (X n) (X (n + 1)) t
/-- The part of two days by the first n periods. -/
def vP (X : Nat → Int) (n : Nat) (f a b : Int) : Rat := (pos X n b - pos X n a) / (f : Rat)
/-- How many of a period's days are from one day to another one. -/
def dy (a b x y : Int) : Int := min b y - max a x

/-- The days rise, and are days. -/
def Rising (X : Nat → Int) (n : Nat) : Prop := (∀ i, i < n → 1 ≤ X i ∧ X i ≤ 3652059) ∧ ∀ i, i + 1 < n → X i ≤ X (i + 1)
theorem Rising.less {X : Nat → Int} {n m : Nat} (h : Rising X n) (hm : m ≤ n) : Rising X m := ⟨fun i hi => h.1 i (by omega), fun i hi => h.2 i (by omega)⟩
theorem Rising.le {X : Nat → Int} {n : Nat} (h : Rising X n) : ∀ {i j : Nat}, i ≤ j → j < n → X i ≤ X j := by
  intro i j hij
  induction j with
  | zero => intro _; obtain rfl : i = 0 := by omega
            exact Int.le_refl _
  | succ j ih =>
    intro hj
    by_cases e : i = j + 1
    · subst e; exact Int.le_refl _
    · exact Int.le_trans (ih (by omega) (by omega)) (h.2 j (by omega))

theorem cast_ne {d : Int} (h : 0 < d) : (d : Rat) ≠ 0 := by
  intro e
  have := Rat.intCast_eq_zero_iff.1 e
  omega
theorem tm_ahead {x y t : Int} (h : t ≤ x) : tm x y t = 0 := by
  unfold tm
  by_cases k : x < y
  · rw [if_pos k]
    have : min (max t x) y - x = 0 := by omega
    rw [this]
    simp [Rat.div_def, Rat.add_zero, Rat.sub_self, Rat.zero_mul]
  · rw [if_neg k]
theorem tm_past {x y t : Int} (h : y ≤ t) (k : x < y) : tm x y t = 1 := by
  unfold tm
  rw [if_pos k]
  have : min (max t x) y - x = y - x := by omega
  rw [this, Rat.div_def]
  exact Rat.mul_inv_cancel _ (cast_ne (by omega))
theorem tm_none {x y t : Int} (k : y ≤ x) : tm x y t = 0 := by
  unfold tm
  rw [if_neg (by omega)]
theorem tm_in {x y t : Int} (h : x ≤ t) (h2 : t ≤ y) (k : x < y) : tm x y t = ((t - x : Int) : Rat) / ((y - x : Int) : Rat) := by
  unfold tm
  rw [if_pos k]
  have : min (max t x) y - x = t - x := by omega
  rw [this]

/-- Behind all periods it is a whole number; else a whole number and a part of one period. -/
theorem pos_form (X : Nat → Int) (t : Int) : ∀ n, Rising X (n + 1) → (∃ k r l : Int, pos X n t = (k : Rat) + (r : Rat) / (l : Rat) ∧ 0 ≤ k ∧ k ≤ n ∧ 0 ≤ r ∧ r ≤ l ∧ 1 ≤ l ∧ l ≤ 3652058) ∧ (X n ≤ t → ∃ k : Int, pos X n t = (k : Rat) ∧ 0 ≤ k ∧ k ≤ n) := by
  intro n
  induction n with
  | zero =>
    intro _
    refine ⟨⟨0, 0, 1, ?_, by omega, by omega, by omega, by omega, by omega, by omega⟩, fun _ => ⟨0, rfl, by omega, by omega⟩⟩
    simp [pos, Rat.div_def, Rat.add_zero]
  | succ n ih =>
    intro hX
    have hX' := hX.less (m := n + 1) (by omega)
    obtain ⟨⟨k, r, l, h1, h2, h3, h4, h5, h6, h7⟩, hw⟩ := ih hX'
    have hle := hX.2 n (by omega)
    have b0 := hX.1 n (by omega)
    have b1 := hX.1 (n + 1) (by omega)
    by_cases c : t ≤ X n
    · have e : pos X (n + 1) t = pos X n t := by
        show pos X n t + tm _ _ _ = _
        rw [tm_ahead c, Rat.add_zero]
      rw [e]
      refine ⟨⟨k, r, l, h1, h2, by omega, h4, h5, h6, h7⟩, fun hc => ?_⟩
      obtain ⟨k', e', g1, g2⟩ := hw (by omega)
      exact ⟨k', e', g1, by omega⟩
    · obtain ⟨k', e', g1, g2⟩ := hw (by omega)
      have e : pos X (n + 1) t = (k' : Rat) + tm (X n) (X (n + 1)) t := by
        show pos X n t + tm _ _ _ = _
        rw [e']
      by_cases z : X (n + 1) ≤ X n
      · rw [tm_none z, Rat.add_zero] at e
        refine ⟨⟨k', 0, 1, ?_, g1, by omega, by omega, by omega, by omega, by omega⟩, fun _ => ⟨k', e, g1, by omega⟩⟩
        rw [e]
        simp [Rat.div_def, Rat.add_zero, Rat.sub_self, Rat.zero_mul]
      · by_cases p : X (n + 1) ≤ t
        · rw [tm_past p (by omega)] at e
          have e2 : pos X (n + 1) t = ((k' + 1 : Int) : Rat) := by rw [e]; simp
          refine ⟨⟨k' + 1, 0, 1, ?_, by omega, by omega, by omega, by omega, by omega, by omega⟩, fun _ => ⟨k' + 1, e2, by omega, by omega⟩⟩
          rw [e2]
          simp [Rat.div_def, Rat.add_zero, Rat.sub_self, Rat.zero_mul]
        · rw [tm_in (by omega) (by omega) (by omega)] at e
          exact ⟨⟨k', t - X n, X (n + 1) - X n, e, g1, by omega, by omega, by omega, by omega, by omega⟩, fun hc => absurd hc p⟩

theorem frac_sub (k r l k' r' l' f : Int) (hl : 0 < l) (hl' : 0 < l') (hf : 0 < f) :
    (((k : Rat) + (r : Rat) / (l : Rat)) - ((k' : Rat) + (r' : Rat) / (l' : Rat))) / (f : Rat) = (((k - k') * l * l' + r * l' - r' * l : Int) : Rat) / ((f * l * l' : Int) : Rat) := by
  have h1 := cast_ne hl
  have h2 := cast_ne hl'
  have h3 := cast_ne hf
  simp only [Rat.intCast_add, Rat.intCast_sub, Rat.intCast_mul]
  grind

theorem dy_yes {a b x y : Int} (hab : a ≤ b) (hxy : x ≤ y) (h : 0 < dy a b x y) : x < y ∧ dy a b x y ≤ y - x ∧ tm x y b - tm x y a = (dy a b x y : Rat) / ((y - x : Int) : Rat) := by
  have k : x < y := by unfold dy at h; omega
  refine ⟨k, by unfold dy; omega, ?_⟩
  unfold tm
  rw [if_pos k, if_pos k]
  have e : dy a b x y = (min (max b x) y - x) - (min (max a x) y - x) := by unfold dy at h ⊢; omega
  rw [e, Rat.intCast_sub]
  have h1 := cast_ne (d := y - x) (by omega)
  grind
theorem dy_no {a b x y : Int} (hab : a ≤ b) (hxy : x ≤ y) (h : ¬ 0 < dy a b x y) : tm x y b - tm x y a = 0 := by
  unfold tm
  by_cases k : x < y
  · rw [if_pos k, if_pos k]
    have e : min (max b x) y - x = min (max a x) y - x := by unfold dy at h; omega
    rw [e, Rat.sub_self]
  · rw [if_neg k, if_neg k, Rat.sub_self]

/-- The part isn't below 0, and fits. -/
theorem vP_form (X : Nat → Int) (n : Nat) (f a b : Int) (hX : Rising X (n + 1)) (hn : n ≤ 1204) (hf : 1 ≤ f ∧ f ≤ 12) : ∃ N D : Int, vP X n f a b = (N : Rat) / (D : Rat) ∧ 0 < D ∧ D ≤ 4611686018427387904 ∧ N ≤ 4611686018427387904 := by
  obtain ⟨⟨k, r, l, h1, h2, h3, h4, h5, h6, h7⟩, _⟩ := pos_form X b n hX
  obtain ⟨⟨k', r', l', g1, g2, g3, g4, g5, g6, g7⟩, _⟩ := pos_form X a n hX
  refine ⟨(k - k') * l * l' + r * l' - r' * l, f * l * l', ?_, ?_, ?_, ?_⟩
  · unfold vP
    rw [h1, g1]
    exact frac_sub k r l k' r' l' f (by omega) (by omega) (by omega)
  · exact Int.mul_pos (Int.mul_pos (by omega) (by omega)) (by omega)
  · have : f * l ≤ 12 * 3652058 := Int.mul_le_mul hf.2 h7 (by omega) (by omega)
    have := Int.mul_le_mul this g7 (by omega) (by omega)
    omega
  · have e1 : (k - k') * l ≤ 1204 * 3652058 := by
      rcases Int.le_total 0 (k - k') with c | c
      · exact Int.mul_le_mul (by omega) h7 (by omega) (by omega)
      · have := Int.mul_le_mul_of_nonneg_right c (show (0 : Int) ≤ l by omega)
        omega
    have e2 : (k - k') * l * l' ≤ 1204 * 3652058 * 3652058 := by
      rcases Int.le_total 0 ((k - k') * l) with c | c
      · exact Int.mul_le_mul e1 g7 (by omega) (by omega)
      · have := Int.mul_le_mul_of_nonneg_right c (show (0 : Int) ≤ l' by omega)
        omega
    have e3 : r * l' ≤ 3652058 * 3652058 := Int.mul_le_mul (by omega) g7 (by omega) (by omega)
    have e4 : 0 ≤ r' * l := Int.mul_nonneg g4 (by omega)
    omega
theorem vP_step (X : Nat → Int) (n : Nat) (f a b : Int) : vP X (n + 1) f a b = vP X n f a b + (tm (X n) (X (n + 1)) b - tm (X n) (X (n + 1)) a) / (f : Rat) := by
  show (pos X n b + _ - (pos X n a + _)) / _ = (pos X n b - pos X n a) / _ + _
  rw [Rat.div_def, Rat.div_def, Rat.div_def]
  grind
theorem vP_zero (X : Nat → Int) (f a b : Int) : vP X 0 f a b = 0 := by
  unfold vP pos
  simp [Rat.div_def, Rat.add_zero, Rat.sub_self, Rat.zero_mul]
theorem rat_div_nonneg {x : Rat} {d : Int} (hx : 0 ≤ x) (hd : 0 < d) : 0 ≤ x / (d : Rat) := by
  rw [Rat.div_def]
  refine Rat.mul_nonneg hx (Rat.le_of_lt (Rat.inv_pos.2 ?_))
  have : (0 : Rat) = ((0 : Int) : Rat) := rfl
  rw [this]
  exact Rat.intCast_lt_intCast.2 hd
theorem step_nonneg {a b x y : Int} (hab : a ≤ b) (hxy : x ≤ y) : 0 ≤ tm x y b - tm x y a := by
  by_cases h : 0 < dy a b x y
  · obtain ⟨k, _, e⟩ := dy_yes hab hxy h
    rw [e]
    refine rat_div_nonneg ?_ (by omega)
    have : (0 : Rat) = ((0 : Int) : Rat) := rfl
    rw [this]
    exact Rat.intCast_le_intCast.2 (by omega)
  · rw [dy_no hab hxy h]
    exact Rat.le_refl
theorem vP_nonneg (X : Nat → Int) (f a b : Int) (hab : a ≤ b) (hf : 0 < f) : ∀ n, Rising X (n + 1) → 0 ≤ vP X n f a b := by
  intro n
  induction n with
  | zero => intro _; rw [vP_zero]; exact Rat.le_refl
  | succ n ih =>
    intro hX
    rw [vP_step]
    exact Rat.add_nonneg (ih (hX.less (by omega))) (rat_div_nonneg (step_nonneg hab (hX.2 n (by omega))) hf)
theorem vP_right (X : Nat → Int) (n : Nat) (f a b : Int) (hX : Rising X (n + 1)) (hn : n ≤ 1204) (hf : 1 ≤ f ∧ f ≤ 12) (hab : a ≤ b) : rightB (vP X n f a b).num (vP X n f a b).den = true := by
  obtain ⟨N, D, e, h1, h2, h3⟩ := vP_form X n f a b hX hn hf
  have h0 := vP_nonneg X f a b hab (by omega) n hX
  refine rat_right h1 e ?_ h3 h2
  rw [e, ← Rat.divInt_eq_div] at h0
  exact (Rat.divInt_nonneg_iff_of_pos_right h1).1 h0
end Go.Proofs.YtcplfgmajbadmaaDoor
