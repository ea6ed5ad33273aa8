/- Layer 16 in plain numbers: steps told by months, and what follows of a loan's days. No program in this text. -/
import Derived.Test.YtjijgcgbnmobfaaGreatDoorDaList
namespace Go.Proofs.YtjijgcgbnmobfaaGreatDoor
set_option linter.unusedVariables false

/-- Steps told by their months: whoever shows which one is the first that isn't between has all of them. -/
theorem walk_of16 (t : Tm) (h : t.code = 0) (y mo d T : Int) (hm : may y mo d) (hn : nb y mo d = t.an) (hT : 12 * y + mo - 1 = T) (m : Nat) (h1 : 1 ≤ m) (h2 : m ≤ 1100)
    (hmid : ∀ k : Nat, 1 ≤ k → k < m → se (T + (k : Int) * t.ap) = 0 ∧ t.st < sx t.eo y mo d (T + (k : Int) * t.ap) ∧ sx t.eo y mo d (T + (k : Int) * t.ap) < t.en)
    (hlast : se (T + (m : Int) * t.ap) = 0 → ¬ (t.st < sx t.eo y mo d (T + (m : Int) * t.ap) ∧ sx t.eo y mo d (T + (m : Int) * t.ap) < t.en)) :
    t.Walk (fun k => sx t.eo y mo d (T + (k : Int) * t.ap)) (fun k => se (T + (k : Int) * t.ap)) m := by
  obtain ⟨hf, hd, ho, -, -⟩ := t.of_zero h
  obtain ⟨m1, m12⟩ := mo_bd hf.2.2.2
  have hTr : 12 ≤ T ∧ T ≤ 119999 := by obtain ⟨a1, a2, a3, a4, -, -⟩ := hm; omega
  have hx0 : sx t.eo y mo d T = t.an := by rw [← hT, sx_self hm, hn]
  have inr : ∀ k, k < m → 12 ≤ T + (k : Int) * t.ap ∧ T + (k : Int) * t.ap ≤ 119999 := fun k hk => by
    rcases Nat.eq_zero_or_pos k with rfl | h0
    · simpa using hTr
    · exact se_zero.1 (hmid k h0 hk).1
  refine ⟨fun k => ?_, ?_, ?_, h1, h2, hmid, fun k => se_or _, hlast, fun k _ e => sx_bd hm (se_zero.1 e), ?_, ?_⟩
  · rw [← hT]; exact sx_move hm hn
  · simpa using hx0
  · simpa using se_zero.2 hTr
  · intro hb j k hjk hk e
    have ea : t.ap = t.ms := by simp [Tm.ap, hb]
    have g1 := inr j (by omega)
    have g2 := se_zero.1 e
    rw [ea] at g1 g2
    (try dsimp only)
    rw [ea]
    have k2 := Int.mul_lt_mul_of_pos_right (show (j : Int) < k by omega) (show 0 < t.ms by omega)
    have := sx_lt (b := t.eo) hm g1.1 (U := T + (k : Int) * t.ms) (by omega) g2.2
    omega
  · intro hb j k hjk hk e
    have ea : t.ap = -t.ms := by simp [Tm.ap, hb]
    have g1 := inr j (by omega)
    have g2 := se_zero.1 e
    rw [ea, Int.mul_neg] at g1 g2
    (try dsimp only)
    rw [ea, Int.mul_neg, Int.mul_neg]
    have k2 := Int.mul_lt_mul_of_pos_right (show (j : Int) < k by omega) (show 0 < t.ms by omega)
    have := sx_lt (b := t.eo) hm g2.1 (U := T + -((j : Int) * t.ms)) (by omega) g1.2
    omega
/-- The document's loan. -/
def ex16 (lg : Bool) : Tm := Tm.mk 1 0 0 0 738900 739302 3 true lg false 0
def exX (k : Nat) : Int := sx false 2025 2 20 (24301 + (k : Int) * -3)
def exE (k : Nat) : Int := se (24301 + (k : Int) * -3)
theorem ex_code (lg : Bool) : (ex16 lg).code = 0 := by cases lg <;> decide +kernel
theorem ex_walk (lg : Bool) : (ex16 lg).Walk exX exE 5 := by
  refine walk_of16 (ex16 lg) (ex_code lg) 2025 2 20 24301 (by unfold may; decide +kernel) (by cases lg <;> decide +kernel) (by decide) 5 (by decide) (by decide) ?_ ?_
  · intro k h1 h2
    have : k = 1 ∨ k = 2 ∨ k = 3 ∨ k = 4 := by omega
    rcases this with rfl | rfl | rfl | rfl <;> cases lg <;> decide +kernel
  · intro _
    cases lg <;> decide +kernel
theorem ex_gl : gl exE 5 = 6 := by decide +kernel
def exG : List Int := [738844, 738936, 739026, 739118, 739210, 739302]
def exA : List Int := [738900, 738936, 739026, 739118, 739210, 739302]
def exB : List Int := [738900, 739026, 739118, 739210, 739302]
theorem ex_grid (lg : Bool) : (ex16 lg).grid exX (gl exE 5) = exG := by cases lg <;> decide +kernel
theorem ex_short : (ex16 false).days ((ex16 false).grid exX (gl exE 5)) = exA := by decide +kernel
theorem ex_long : (ex16 true).days ((ex16 true).grid exX (gl exE 5)) = exB := by decide +kernel
theorem ex_five (lg : Bool) : (Tm.mk 1 0 0 0 738900 739302 5 true lg false 0).code = 1 := by cases lg <;> decide +kernel

variable {t : Tm} {X E : Nat → Int} {m : Nat}
/-- RISE: days strictly rise, from the first one to the last one; all but the one at the stub are steps. -/
theorem Tm.dd_zero (t : Tm) (X : Nat → Int) (q : Nat) (h : X 0 = t.an) : t.dd X q 0 = t.st := by
  unfold Tm.dd
  by_cases b : t.bk = true
  · rw [if_pos b, if_pos rfl]
  · rw [if_neg b, if_pos (by omega), h]; unfold Tm.an; rw [if_neg b]
theorem Tm.dd_end (t : Tm) (X : Nat → Int) (q : Nat) (h : X 0 = t.an) : t.dd X q (q + 1) = t.en := by
  unfold Tm.dd
  by_cases b : t.bk = true
  · rw [if_pos b, if_neg (by omega), show q + 1 - (q + 1) = 0 by omega, h]; unfold Tm.an; rw [if_pos b]
  · rw [if_neg b, if_neg (by omega)]
theorem Tm.Walk.dd_step (h : t.Walk X E m) {q i : Nat} (hi : i ≤ q + 1) (hs : ¬ (t.bk = true ∧ i = 0)) (hs2 : ¬ (t.bk = false ∧ i = q + 1)) : t.dd X q i = X (if t.bk = true then q + 1 - i else i) := by
  unfold Tm.dd
  by_cases b : t.bk = true
  · rw [if_pos b, if_pos b, if_neg (fun e => hs ⟨b, e⟩)]
  · have b' : t.bk = false := by cases hb : t.bk; rfl; exact absurd hb b
    rw [if_neg b, if_neg b, if_pos (by have : i ≠ q + 1 := fun e => hs2 ⟨b', e⟩; omega)]
theorem Tm.Walk.dd_rise (h : t.Walk X E m) (ho : t.st < t.en) {q : Nat} (hq : q ≤ m - 1) : ∀ i, i + 1 < q + 2 → t.dd X q i < t.dd X q (i + 1) := by
  intro i hi
  have one := h.one
  have e0 := h.e0
  have x0 := h.x0
  cases hb : t.bk
  · have an : t.an = t.st := by simp [Tm.an, hb]
    have dd : ∀ i, t.dd X q i = if i ≤ q then X i else t.en := fun i => by simp [Tm.dd, hb]
    rw [dd, dd, if_pos (show i ≤ q by omega)]
    by_cases c : i + 1 ≤ q
    · rw [if_pos c]
      exact h.up hb i (i + 1) (by omega) (by omega) (h.mid (i + 1) (by omega) (by omega)).1
    · rw [if_neg c]
      rcases Nat.eq_zero_or_pos i with z | z
      · subst z; rw [x0, an]; exact ho
      · exact (h.mid i z (by omega)).2.2
  · have an : t.an = t.en := by simp [Tm.an, hb]
    have dd : ∀ i, t.dd X q i = if i = 0 then t.st else X (q + 1 - i) := fun i => by simp [Tm.dd, hb]
    rw [dd, dd, if_neg (show i + 1 ≠ 0 by omega)]
    by_cases c : i = 0
    · rw [if_pos c]
      subst c
      rw [show q + 1 - (0 + 1) = q by omega]
      rcases Nat.eq_zero_or_pos q with z | z
      · subst z; rw [x0, an]; exact ho
      · exact (h.mid q z (by omega)).2.1
    · rw [if_neg c]
      refine h.down hb (q + 1 - (i + 1)) (q + 1 - i) (by omega) (by omega) ?_
      exact (h.mid (q + 1 - i) (by omega) (by omega)).1
end Go.Proofs.YtjijgcgbnmobfaaGreatDoor
