/- Layer 12 in plain numbers: which rules may be; the day that one tells of a year, as it stands, and shifted; which days are a rule's. No program in this text. -/
import Derived.Test.YtkbhicdcjfpbaaaDoorEaNum
namespace Go.Proofs.YtkbhicdcjfpbaaaDoor
set_option linter.unusedVariables false

/-- A rule: kind, month, day, which one, days from Easter, shift, first year, last year. -/
structure Ru where
  k : Int
  m : Int
  d : Int
  q : Int
  o : Int
  s : Int
  f : Int
  t : Int
def Ru.May (r : Ru) : Prop :=
  (0 ≤ r.k ∧ r.k ≤ 3) ∧ (0 ≤ r.s ∧ r.s ≤ 2) ∧ (1 ≤ r.f ∧ r.f ≤ r.t ∧ r.t ≤ 9999) ∧ (r.k = 3 → -100 ≤ r.o ∧ r.o ≤ 250) ∧ (r.k ≠ 3 → 1 ≤ r.m ∧ r.m ≤ 12) ∧
  (r.k = 0 → 1 ≤ r.d ∧ r.d ≤ ln 2000 r.m) ∧ (r.k = 1 ∨ r.k = 2 → 0 ≤ r.d ∧ r.d ≤ 6) ∧ (r.k = 1 → 1 ≤ r.q ∧ r.q ≤ 5)
instance (r : Ru) : Decidable r.May := by unfold Ru.May; infer_instance
def Ru.mb (r : Ru) : Bool := decide r.May
theorem ru_yes {r : Ru} (h : r.May) : r.mb = true := decide_eq_true h
theorem ru_no {r : Ru} (h : ¬ r.May) : r.mb = false := decide_eq_false h
/-- The day of the month: the q-th day of the week d, the last one. -/
def nthD (y m d q : Int) : Int := 1 + (d - wk (nb y m 1)) % 7 + 7 * (q - 1)
def lastD (y m d : Int) : Int := ln y m - (wk (nb y m (ln y m)) - d) % 7
def Ru.dd (r : Ru) (y : Int) : Int := if r.k = 0 then r.d else if r.k = 1 then nthD y r.m r.d r.q else lastD y r.m r.d
/-- The day of a year as it stands; 0, if there is none. -/
def Ru.bas (r : Ru) (y : Int) : Int :=
  if y < r.f ∨ r.t < y then 0 else if r.k = 3 then (if 1 ≤ east y + r.o ∧ east y + r.o ≤ 3652059 then east y + r.o else 0)
  else if r.dd y ≤ ln y r.m then nb y r.m (r.dd y) else 0
/-- A day, shifted. -/
def shd (s n : Int) : Int := if s = 1 ∧ wk n = 5 then n - 1 else if s = 2 ∧ wk n = 5 then n + 2 else if 0 < s ∧ wk n = 6 then n + 1 else n
def Ru.inn (r : Ru) (y : Int) : Int := if 0 < r.bas y ∧ 1 ≤ shd r.s (r.bas y) ∧ shd r.s (r.bas y) ≤ 3652059 then shd r.s (r.bas y) else 0
/-- A day is one of the rule: the rule's shifted day of some year. -/
def Ru.Is (r : Ru) (n : Int) : Prop := 0 < n ∧ ∃ y, r.inn y = n

theorem shd_bd (s n : Int) : n - 1 ≤ shd s n ∧ shd s n ≤ n + 2 := by unfold shd; omega
theorem dd_one {r : Ru} {y : Int} (h : r.May) (hk : r.k ≠ 3) : 1 ≤ r.dd y := by
  obtain ⟨h1, h2, h3, h4, h5, h6, h7, h8⟩ := h
  have := h5 hk
  have l := ln_ge y r.m this.1 this.2
  unfold Ru.dd
  by_cases c0 : r.k = 0
  · rw [if_pos c0]; exact (h6 c0).1
  · rw [if_neg c0]
    by_cases c1 : r.k = 1
    · rw [if_pos c1]; have := h8 c1; unfold nthD; omega
    · rw [if_neg c1]; unfold lastD; omega
theorem bas_month {r : Ru} {y : Int} (h : r.May) (hk : r.k ≠ 3) (hy : r.f ≤ y ∧ y ≤ r.t) (hd : r.dd y ≤ ln y r.m) : r.bas y = nb y r.m (r.dd y) ∧ may y r.m (r.dd y) := by
  have h3 := h.2.2.1
  have h5 := h.2.2.2.2.1 hk
  have o := dd_one (y := y) h hk
  refine ⟨?_, by omega, by omega, h5.1, h5.2, o, hd⟩
  unfold Ru.bas
  rw [if_neg (by omega), if_neg hk, if_pos hd]
theorem bas_none {r : Ru} {y : Int} (hk : r.k ≠ 3) (hy : r.f ≤ y ∧ y ≤ r.t) (hd : ln y r.m < r.dd y) : r.bas y = 0 := by
  unfold Ru.bas
  rw [if_neg (by omega), if_neg hk, if_neg (by omega)]
theorem bas_out {r : Ru} {y : Int} (hy : y < r.f ∨ r.t < y) : r.bas y = 0 := by
  unfold Ru.bas
  rw [if_pos hy]
theorem bas_east {r : Ru} {y : Int} (hk : r.k = 3) (hy : r.f ≤ y ∧ y ≤ r.t) (h : 1 ≤ east y + r.o ∧ east y + r.o ≤ 3652059) : r.bas y = east y + r.o := by
  unfold Ru.bas
  rw [if_neg (by omega), if_pos hk, if_pos h]
theorem bas_eout {r : Ru} {y : Int} (hk : r.k = 3) (hy : r.f ≤ y ∧ y ≤ r.t) (h : ¬ (1 ≤ east y + r.o ∧ east y + r.o ≤ 3652059)) : r.bas y = 0 := by
  unfold Ru.bas
  rw [if_neg (by omega), if_pos hk, if_neg h]
theorem bas_bd {r : Ru} (y : Int) (h : r.May) : 0 ≤ r.bas y ∧ r.bas y ≤ 3652059 := by
  by_cases hy : y < r.f ∨ r.t < y
  · rw [bas_out hy]; decide
  · by_cases hk : r.k = 3
    · by_cases he : 1 ≤ east y + r.o ∧ east y + r.o ≤ 3652059
      · rw [bas_east hk (by omega) he]; omega
      · rw [bas_eout hk (by omega) he]; decide
    · by_cases hd : r.dd y ≤ ln y r.m
      · have a := bas_month h hk (by omega) hd
        have b := nb_bd _ _ _ a.2
        rw [a.1]; omega
      · rw [bas_none hk (by omega) (by omega)]; decide
theorem inn_bd {r : Ru} (y : Int) : 0 ≤ r.inn y ∧ r.inn y ≤ 3652059 := by unfold Ru.inn; split <;> omega
theorem inn_year {r : Ru} {y : Int} (h : 0 < r.inn y) : 0 < r.bas y ∧ r.inn y = shd r.s (r.bas y) := by
  unfold Ru.inn at h ⊢
  by_cases c : 0 < r.bas y ∧ 1 ≤ shd r.s (r.bas y) ∧ shd r.s (r.bas y) ≤ 3652059
  · rw [if_pos c] at h ⊢; exact ⟨c.1, rfl⟩
  · rw [if_neg c] at h; omega
theorem inn_out {r : Ru} {y : Int} (h : r.bas y = 0) : r.inn y = 0 := by
  unfold Ru.inn
  rw [if_neg (by omega)]
theorem bas_held {r : Ru} {y : Int} (h : 0 < r.bas y) : r.f ≤ y ∧ y ≤ r.t := by
  by_cases hy : y < r.f ∨ r.t < y
  · rw [bas_out hy] at h; omega
  · omega
/-- The day lies in the year, or close to it. -/
theorem bas_near {r : Ru} {y : Int} (h : r.May) (hb : 0 < r.bas y) : ah y - 20 < r.bas y ∧ r.bas y ≤ ah y + 366 := by
  have hy := bas_held hb
  have h3 := h.2.2.1
  by_cases hk : r.k = 3
  · have ho := h.2.2.2.1 hk
    by_cases he : 1 ≤ east y + r.o ∧ east y + r.o ≤ 3652059
    · rw [bas_east hk hy he]
      have b := ea_bd y
      have m := march y 1
      have : (if lp y = true then (1 : Int) else 0) = 0 ∨ (if lp y = true then (1 : Int) else 0) = 1 := by split <;> simp
      omega
    · rw [bas_eout hk hy he] at hb; omega
  · by_cases hd : r.dd y ≤ ln y r.m
    · have a := bas_month h hk hy hd
      rw [a.1]
      have i := in_year _ _ _ a.2
      have l := yl_bd y
      unfold nb
      omega
    · rw [bas_none hk hy (by omega)] at hb; omega
theorem is_near {r : Ru} {y n Y M D : Int} (h : r.May) (hn : 0 < n) (hi : r.inn y = n) (hd : may Y M D) (hN : nb Y M D = n) : Y - 1 ≤ y ∧ y ≤ Y + 1 := by
  have a := inn_year (r := r) (y := y) (by omega)
  have b := bas_near h a.1
  have s := shd_bd r.s (r.bas y)
  have i := in_year _ _ _ hd
  have l := yl_bd Y
  unfold nb at hN
  have e1 : y ≤ Y + 1 ∨ Y + 2 ≤ y := by omega
  have e2 : Y - 1 ≤ y ∨ y + 2 ≤ Y := by omega
  refine ⟨?_, ?_⟩
  · rcases e2 with e | e
    · exact e
    · have := ah_le y Y (by omega); omega
  · rcases e1 with e | e
    · exact e
    · have p := ah_le (Y + 1) y (by omega)
      have q := ah_step Y
      omega
/-- What the day is by its kind. -/
theorem nth_wk {y m d q : Int} (h : 0 ≤ d ∧ d ≤ 6) : wk (nb y m (nthD y m d q)) = d ∧ (nthD y m d q - 1) / 7 = q - 1 := by
  have e : nb y m (nthD y m d q) = nb y m 1 + (nthD y m d q - 1) := by unfold nb; omega
  rw [e]
  unfold nthD wk
  omega
theorem last_wk {y m d : Int} (h : 0 ≤ d ∧ d ≤ 6) : wk (nb y m (lastD y m d)) = d ∧ lastD y m d ≤ ln y m ∧ ln y m < lastD y m d + 7 := by
  have e : nb y m (lastD y m d) = nb y m (ln y m) - (ln y m - lastD y m d) := by unfold nb; omega
  rw [e]
  unfold lastD wk
  omega
/-- Of one kind but Easter's, days of two years are far apart. -/
theorem bas_apart {r : Ru} {y z : Int} (h : r.May) (hk : r.k ≠ 3) (hy : 0 < r.bas y) (hz : 0 < r.bas z) (hyz : y < z) : r.bas y + 300 < r.bas z := by
  have a := bas_held hy
  have b := bas_held hz
  have dy : r.dd y ≤ ln y r.m := by
    by_cases c : ln y r.m < r.dd y
    · rw [bas_none hk a c] at hy; omega
    · omega
  have dz : r.dd z ≤ ln z r.m := by
    by_cases c : ln z r.m < r.dd z
    · rw [bas_none hk b c] at hz; omega
    · omega
  have p := bas_month h hk a dy
  have q := bas_month h hk b dz
  have o1 := dd_one (y := y) h hk
  have o2 := dd_one (y := z) h hk
  have l := (ln_le y r.m).2
  have g := ah_le y z (by omega)
  rw [p.1, q.1]
  unfold nb am
  have e1 : (if 2 < r.m ∧ lp y = true then (1 : Int) else 0) ≤ 1 := by split <;> simp
  have e2 : 0 ≤ (if 2 < r.m ∧ lp z = true then (1 : Int) else 0) := by split <;> simp
  omega
/-- Which years of those it holds for have a day. -/
theorem many_fixed {r : Ru} {y : Int} (h : r.May) (hk : r.k = 0) (hy : r.f ≤ y ∧ y ≤ r.t) : (r.m = 2 ∧ r.d = 29 → (0 < r.bas y ↔ lp y = true)) ∧ (¬ (r.m = 2 ∧ r.d = 29) → 0 < r.bas y) := by
  have h6 := h.2.2.2.2.2.1 hk
  have e : r.dd y = r.d := by unfold Ru.dd; rw [if_pos hk]
  have l1 : ln 2000 r.m = if r.m = 2 then 29 else l0 r.m := by
    unfold ln
    rw [show lp 2000 = true by decide]
    simp
  have key : r.d ≤ ln y r.m → 0 < r.bas y := fun c => by
    have a := bas_month h (by omega) hy (by rw [e]; exact c)
    have := nb_bd _ _ _ a.2
    omega
  refine ⟨fun c => ⟨fun hb => ?_, fun hl => key ?_⟩, fun c => key ?_⟩
  · cases hl : lp y with
    | true => rfl
    | false =>
      have : ln y r.m = 28 := by unfold ln l0; rw [c.1, hl]; simp
      rw [bas_none (by omega) hy (by rw [e]; omega)] at hb
      omega
  · unfold ln; rw [c.1, hl]; simp; omega
  · rw [l1] at h6
    by_cases m2 : r.m = 2
    · have e2 : 28 ≤ ln y r.m := by rw [m2]; exact ln_ge y 2 (by decide) (by decide)
      rw [if_pos m2] at h6
      have : r.d ≠ 29 := fun e => c ⟨m2, e⟩
      omega
    · rw [if_neg m2] at h6
      unfold ln
      rw [if_neg (by omega)]
      exact h6.2
theorem many_nth {r : Ru} {y : Int} (h : r.May) (hk : r.k = 1) (hy : r.f ≤ y ∧ y ≤ r.t) (hq : r.q ≠ 5) : 0 < r.bas y := by
  have h8 := h.2.2.2.2.2.2.2 hk
  have h5 := h.2.2.2.2.1 (by omega)
  have l := ln_ge y r.m h5.1 h5.2
  have e : r.dd y = nthD y r.m r.d r.q := by unfold Ru.dd; rw [if_neg (by omega), if_pos hk]
  have a := bas_month h (by omega) hy (by rw [e]; unfold nthD; omega)
  have := nb_bd _ _ _ a.2
  omega
theorem many_last {r : Ru} {y : Int} (h : r.May) (hk : r.k = 2) (hy : r.f ≤ y ∧ y ≤ r.t) : 0 < r.bas y := by
  have h7 := h.2.2.2.2.2.2.1 (Or.inr hk)
  have e : r.dd y = lastD y r.m r.d := by unfold Ru.dd; rw [if_neg (by omega), if_neg (by omega)]
  have a := bas_month h (by omega) hy (by rw [e]; exact (last_wk h7).2.1)
  have := nb_bd _ _ _ a.2
  omega
end Go.Proofs.YtkbhicdcjfpbaaaDoor
