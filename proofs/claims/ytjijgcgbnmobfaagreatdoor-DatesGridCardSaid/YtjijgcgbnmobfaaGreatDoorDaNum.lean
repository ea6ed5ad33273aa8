/- Layer 16 in plain numbers: a loan's steps, so many months apart from its anchor; grids; a loan's days; what follows of them. No program in this text. -/
import Derived.Test.YtjijgcgbnmobfaaGreatDoorMoNum
import Derived.Test.YtjijgcgbnmobfaaGreatDoorTeNum
namespace Go.Proofs.YtjijgcgbnmobfaaGreatDoor
set_option linter.unusedVariables false

/-- The day so many months on: T counts months (12 is the first one of all); its code. -/
def sx (b : Bool) (y m d T : Int) : Int := if 12 ≤ T ∧ T ≤ 119999 then nb (T / 12) (T % 12 + 1) (dm b y m d (T / 12) (T % 12 + 1)) else 0
def se (T : Int) : Int := if 12 ≤ T ∧ T ≤ 119999 then 0 else 3
theorem sx_move {n k y m d : Int} {b : Bool} (h : may y m d) (hn : nb y m d = n) : MoveIs n k b (sx b y m d (12 * y + m - 1 + k)) (se (12 * y + m - 1 + k)) := by
  unfold sx se
  by_cases c : 12 ≤ 12 * y + m - 1 + k ∧ 12 * y + m - 1 + k ≤ 119999
  · rw [if_pos c, if_pos c]
    exact move_in y m d _ _ _ h hn (by omega) (by omega) (by omega) (by omega) (by omega) rfl rfl
  · rw [if_neg c, if_neg c]
    exact move_far y m d h hn (by omega)
theorem se_zero {T : Int} : se T = 0 ↔ 12 ≤ T ∧ T ≤ 119999 := by unfold se; split <;> omega
theorem se_or (T : Int) : se T = 0 ∨ se T = 3 := by unfold se; split <;> omega
theorem sx_may {b : Bool} {y m d T : Int} (h : may y m d) (hT : 12 ≤ T ∧ T ≤ 119999) : may (T / 12) (T % 12 + 1) (dm b y m d (T / 12) (T % 12 + 1)) :=
  dm_may b y m d _ _ h (by omega) (by omega) (by omega) (by omega)
theorem sx_bd {b : Bool} {y m d T : Int} (h : may y m d) (hT : 12 ≤ T ∧ T ≤ 119999) : 1 ≤ sx b y m d T ∧ sx b y m d T ≤ 3652059 := by
  unfold sx; rw [if_pos hT]; exact nb_bd _ _ _ (sx_may h hT)
/-- The day itself. -/
theorem sx_self {b : Bool} {y m d : Int} (h : may y m d) : sx b y m d (12 * y + m - 1) = nb y m d := by
  obtain ⟨h1, h2, h3, h4, h5, h6⟩ := h
  unfold sx
  rw [if_pos (by omega), show (12 * y + m - 1) / 12 = y by omega, show (12 * y + m - 1) % 12 + 1 = m by omega]
  unfold dm
  split
  · next c => rw [c.2]
  · rw [Int.min_eq_left h6]
/-- The first day of the next month stands behind this month's days. -/
theorem nb_next (y m : Int) (h1 : 1 ≤ m) (h2 : m ≤ 12) (T : Int) (hT : 12 * y + m = T) : nb (T / 12) (T % 12 + 1) 0 = nb y m (ln y m) := by
  by_cases c : m = 12
  · subst c
    rw [show T / 12 = y + 1 by omega, show T % 12 + 1 = 1 by omega]
    unfold nb
    rw [am_one, ah_step, ← am_end, show (13 : Int) = 12 + 1 from rfl, am_step y 12 (by omega) (by omega)]
    omega
  · rw [show T / 12 = y by omega, show T % 12 + 1 = m + 1 by omega]
    unfold nb
    rw [am_step y m h1 h2]
    omega
/-- A month on there are 28 days more, at least. -/
theorem sx_step {b : Bool} {y m d T : Int} (h : may y m d) (h1 : 12 ≤ T) (h2 : T + 1 ≤ 119999) : sx b y m d T + 28 ≤ sx b y m d (T + 1) := by
  have e := nb_next (T / 12) (T % 12 + 1) (by omega) (by omega) (T + 1) (by omega)
  have l1 := ln_ge (T / 12) (T % 12 + 1) (by omega) (by omega)
  have l2 := ln_ge ((T + 1) / 12) ((T + 1) % 12 + 1) (by omega) (by omega)
  obtain ⟨-, -, -, -, a5, a6⟩ := h
  unfold sx
  rw [if_pos (by omega), if_pos (by omega)]
  unfold dm nb at *
  split <;> omega
theorem sx_gap {b : Bool} {y m d T : Int} (h : may y m d) (h1 : 12 ≤ T) : ∀ j : Nat, T + j ≤ 119999 → sx b y m d T + 28 * j ≤ sx b y m d (T + j) := by
  intro j
  induction j with
  | zero => intro _; simp
  | succ j ih =>
    intro hj
    have a := ih (by omega)
    have s := sx_step (b := b) h (T := T + j) (by omega) (by omega)
    rw [show T + ((j + 1 : Nat) : Int) = T + j + 1 by omega]
    omega
theorem sx_lt {b : Bool} {y m d T U : Int} (h : may y m d) (h1 : 12 ≤ T) (h2 : T < U) (h3 : U ≤ 119999) : sx b y m d T + 28 * (U - T) ≤ sx b y m d U := by
  have := sx_gap (b := b) h h1 (U - T).toNat (by omega)
  rw [show T + ((U - T).toNat : Int) = U by omega] at this
  omega

/-- The end that steps are told from, the other one, and how many months on each step is. -/
def Tm.an (t : Tm) : Int := if t.bk = true then t.en else t.st
def Tm.ot (t : Tm) : Int := if t.bk = true then t.st else t.en
def Tm.ap (t : Tm) : Int := if t.bk = true then -t.ms else t.ms
/-- Between a loan's ends. -/
def Tm.btw (t : Tm) (n : Int) : Bool := decide (t.st < n) && decide (n < t.en)
theorem Tm.btw_iff (t : Tm) (n : Int) : t.btw n = true ↔ t.st < n ∧ n < t.en := by simp [Tm.btw]
theorem Tm.btw_not (t : Tm) (n : Int) : t.btw n = false ↔ n ≤ t.st ∨ t.en ≤ n := by
  rw [← Bool.not_eq_true, Tm.btw_iff]; omega
/-- X are the steps, E their codes; the m-th one is the first one behind the anchor that isn't between the ends, or is no day. -/
structure Tm.Walk (t : Tm) (X E : Nat → Int) (m : Nat) : Prop where
  mv : ∀ k : Nat, MoveIs t.an ((k : Int) * t.ap) t.eo (X k) (E k)
  x0 : X 0 = t.an
  e0 : E 0 = 0
  one : 1 ≤ m
  top : m ≤ 1100
  mid : ∀ k, 1 ≤ k → k < m → E k = 0 ∧ t.st < X k ∧ X k < t.en
  code : ∀ k, E k = 0 ∨ E k = 3
  last : E m = 0 → ¬ (t.st < X m ∧ X m < t.en)
  day : ∀ k, k ≤ m → E k = 0 → 1 ≤ X k ∧ X k ≤ 3652059
  up : t.bk = false → ∀ j k, j < k → k ≤ m → E k = 0 → X j < X k
  down : t.bk = true → ∀ j k, j < k → k ≤ m → E k = 0 → X k < X j
/-- The first number for which something holds. -/
theorem first_of (P : Nat → Prop) : ∀ n : Nat, P n → ∃ m, m ≤ n ∧ P m ∧ ∀ k, k < m → ¬ P k := by
  intro n
  induction n using Nat.strongRecOn with
  | _ n ih =>
    intro hn
    by_cases h : ∃ k, k < n ∧ P k
    · obtain ⟨k, h1, h2⟩ := h
      obtain ⟨m, a, b, c⟩ := ih k h1 h2
      exact ⟨m, by omega, b, c⟩
    · exact ⟨n, Nat.le_refl _, hn, fun k hk g => h ⟨k, hk, g⟩⟩
theorem mo_bd {m : Int} (h : Mo m) : 1 ≤ m ∧ m ≤ 12 := by unfold Mo at h; omega
theorem mul_le_mul1 {a b c : Int} (ha : 1 ≤ a) (hb : 0 ≤ b) (h : b * a ≤ c) : b ≤ c := by
  have := Int.mul_le_mul_of_nonneg_left ha hb
  omega
/-- Terms that may be, of so many days at most, have steps. -/
theorem Tm.walk (t : Tm) (h : t.code = 0) (hs : t.en - t.st ≤ 30000) : ∃ X E m, t.Walk X E m := by
  obtain ⟨hf, hd, ho, -, -⟩ := t.of_zero h
  obtain ⟨m1, m12⟩ := mo_bd hf.2.2.2
  have hA : 1 ≤ t.an ∧ t.an ≤ 3652059 := by unfold Tm.an; split; exact hd.2; exact hd.1
  obtain ⟨y, mo, d, hm, hn⟩ := day_of t.an hA.1 hA.2
  obtain ⟨T, hT⟩ : ∃ T, 12 * y + mo - 1 = T := ⟨_, rfl⟩
  have hTr : 12 ≤ T ∧ T ≤ 119999 := by obtain ⟨a1, a2, a3, a4, -, -⟩ := hm; omega
  have hx0 : sx t.eo y mo d T = t.an := by rw [← hT, sx_self hm, hn]
  have hmv : ∀ k : Nat, MoveIs t.an ((k : Int) * t.ap) t.eo (sx t.eo y mo d (T + (k : Int) * t.ap)) (se (T + (k : Int) * t.ap)) := fun k => by
    rw [← hT]; exact sx_move hm hn
  let P : Nat → Prop := fun k => 1 ≤ k ∧ ¬ (se (T + (k : Int) * t.ap) = 0 ∧ t.st < sx t.eo y mo d (T + (k : Int) * t.ap) ∧ sx t.eo y mo d (T + (k : Int) * t.ap) < t.en)
  have key : ∀ k : Nat, (k : Int) ≤ (k : Int) * t.ms := fun k => by
    have := Int.mul_le_mul_of_nonneg_left m1 (show (0 : Int) ≤ k by omega)
    omega
  have hP : P 1100 := by
    refine ⟨by omega, fun ⟨g1, g2, g3⟩ => ?_⟩
    rw [se_zero] at g1
    have k1 := key 1100
    cases hb : t.bk
    · have ea : t.ap = t.ms := by simp [Tm.ap, hb]
      have en : t.an = t.st := by simp [Tm.an, hb]
      rw [ea] at g1 g2 g3
      have := sx_lt (b := t.eo) hm hTr.1 (U := T + ((1100 : Nat) : Int) * t.ms) (by omega) g1.2
      rw [hx0, en] at this
      omega
    · have ea : t.ap = -t.ms := by simp [Tm.ap, hb]
      have en : t.an = t.en := by simp [Tm.an, hb]
      rw [ea] at g1 g2 g3
      rw [Int.mul_neg] at g1 g2 g3
      have := sx_lt (b := t.eo) hm g1.1 (U := T) (by omega) hTr.2
      rw [hx0, en] at this
      omega
  obtain ⟨m, hm1, ⟨hm2, hm3⟩, hm4⟩ := first_of P 1100 hP
  have inr : ∀ k, k < m → 12 ≤ T + (k : Int) * t.ap ∧ T + (k : Int) * t.ap ≤ 119999 := fun k hk => by
    rcases Nat.eq_zero_or_pos k with rfl | h0
    · simpa using hTr
    · by_cases c : se (T + (k : Int) * t.ap) = 0
      · exact se_zero.1 c
      · exact absurd ⟨h0, fun g => c g.1⟩ (hm4 k hk)
  refine ⟨fun k => sx t.eo y mo d (T + (k : Int) * t.ap), fun k => se (T + (k : Int) * t.ap), m, hmv, ?_, ?_, hm2, hm1, ?_, fun k => se_or _, ?_, ?_, ?_, ?_⟩
  · simpa using hx0
  · simpa using se_zero.2 hTr
  · intro k h1 h2
    by_cases c : se (T + (k : Int) * t.ap) = 0 ∧ t.st < sx t.eo y mo d (T + (k : Int) * t.ap) ∧ sx t.eo y mo d (T + (k : Int) * t.ap) < t.en
    · exact c
    · exact absurd ⟨h1, c⟩ (hm4 k h2)
  · intro e g; exact hm3 ⟨e, g⟩
  · intro k _ e; exact sx_bd hm (se_zero.1 e)
  · intro hb j k hjk hk e
    have ea : t.ap = t.ms := by simp [Tm.ap, hb]
    have g1 := inr j (by omega)
    have g2 := se_zero.1 e
    rw [ea] at g1 g2
    (try dsimp only)
    rw [ea]
    have k2 := Int.mul_lt_mul_of_pos_right (show (j : Int) < k by omega) (show 0 < t.ms by omega)
    have := sx_lt (b := t.eo) hm g1.1 (U := T + (k : Int) * t.ms) (by omega) g2.2
    omega
  · intro hb j k hjk hk e
    have ea : t.ap = -t.ms := by simp [Tm.ap, hb]
    have g1 := inr j (by omega)
    have g2 := se_zero.1 e
    rw [ea, Int.mul_neg] at g1 g2
    (try dsimp only)
    rw [ea, Int.mul_neg, Int.mul_neg]
    have k2 := Int.mul_lt_mul_of_pos_right (show (j : Int) < k by omega) (show 0 < t.ms by omega)
    have := sx_lt (b := t.eo) hm g2.1 (U := T + -((j : Int) * t.ms)) (by omega) g1.2
    omega
end Go.Proofs.YtjijgcgbnmobfaaGreatDoor
