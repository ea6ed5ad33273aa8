/- Kinds of loans and their names, periods a year; terms, and why they may not be. No program in this text. -/
import Derived.Test.YtjijgcgbnmobfaaGreatDoorCBase
namespace Go.Proofs.YtjijgcgbnmobfaaGreatDoor
open Go.RowKit
set_option linter.unusedVariables false

/-- The kinds' names. -/
def tn (k : Int) : ByteArray := if k = 0 then ⟨#[98, 117, 108, 108, 101, 116]⟩ else if k = 1 then ⟨#[101, 113, 117, 97, 108]⟩ else if k = 2 then ⟨#[108, 101, 118, 101, 108]⟩ else ⟨#[]⟩
/-- The kind of a name, and its code. -/
def tk (s : ByteArray) : Int × Int := if ((tn 0).toList == s.toList) = true then (0, 0) else if ((tn 1).toList == s.toList) = true then (1, 0) else if ((tn 2).toList == s.toList) = true then (2, 0) else (0, 10)
theorem tn_out (k : Int) (h : k < 0 ∨ 2 < k) : tn k = ⟨#[]⟩ := by
  unfold tn
  rw [if_neg (by omega), if_neg (by omega), if_neg (by omega)]
theorem tn_0 : tn 0 = ⟨#[98, 117, 108, 108, 101, 116]⟩ := by simp [tn]
theorem tn_1 : tn 1 = ⟨#[101, 113, 117, 97, 108]⟩ := by simp [tn]
theorem tn_2 : tn 2 = ⟨#[108, 101, 118, 101, 108]⟩ := by simp [tn]
theorem of3 (k : Int) (h : 0 ≤ k ∧ k ≤ 2) : k = 0 ∨ k = 1 ∨ k = 2 := by omega
/-- Whether there is such a kind of loan: its name isn't empty. -/
theorem tn_none (k : Int) : (tn k).toList.isEmpty = decide (k < 0 ∨ 2 < k) := by
  by_cases h : k < 0 ∨ 2 < k
  · rw [tn_out k h, decide_eq_true h]; decide +kernel
  · rw [decide_eq_false h]
    rcases of3 k (by omega) with rfl | rfl | rfl <;> decide +kernel
/-- Periods a year. -/
def fr (m : Int) : Int := if m = 1 then 12 else if m = 2 then 6 else if m = 3 then 4 else if m = 4 then 3 else if m = 6 then 2 else if m = 12 then 1 else 0
/-- Months of a period. -/
def Mo (m : Int) : Prop := m = 1 ∨ m = 2 ∨ m = 3 ∨ m = 4 ∨ m = 6 ∨ m = 12
instance (m : Int) : Decidable (Mo m) := by unfold Mo; infer_instance
theorem fr_no {m : Int} (h : ¬ Mo m) : fr m = 0 := by
  unfold Mo at h
  unfold fr
  rw [if_neg (by omega), if_neg (by omega), if_neg (by omega), if_neg (by omega), if_neg (by omega), if_neg (by omega)]
theorem fr_zero (m : Int) : (fr m == 0) = decide (¬ Mo m) := by
  by_cases h : Mo m
  · rw [decide_eq_false (fun g => g h)]
    rcases h with rfl | rfl | rfl | rfl | rfl | rfl <;> decide +kernel
  · rw [fr_no h, decide_eq_true h]; decide +kernel
/-- Terms of a loan. -/
structure Tm where
  mo : Int
  ra : Int
  ki : Int
  co : Int
  st : Int
  en : Int
  ms : Int
  bk : Bool
  lg : Bool
  eo : Bool
  ro : Int
def Tm.Form (t : Tm) : Prop := (0 ≤ t.ki ∧ t.ki ≤ 2) ∧ (0 ≤ t.co ∧ t.co ≤ 6) ∧ (0 ≤ t.ro ∧ t.ro ≤ 4) ∧ Mo t.ms
instance (t : Tm) : Decidable t.Form := by unfold Tm.Form; infer_instance
def Tm.Days (t : Tm) : Prop := (1 ≤ t.st ∧ t.st ≤ 3652059) ∧ (1 ≤ t.en ∧ t.en ≤ 3652059)
instance (t : Tm) : Decidable t.Days := by unfold Tm.Days; infer_instance
def Tm.Own (t : Tm) : Prop := (1 ≤ t.mo ∧ t.mo ≤ 1000000000000000) ∧ (0 ≤ t.ra ∧ t.ra ≤ 1000000)
instance (t : Tm) : Decidable t.Own := by unfold Tm.Own; infer_instance
/-- What Check answers. -/
def Tm.code (t : Tm) : Int := if ¬ t.Form then 1 else if ¬ t.Days then 3 else if ¬ t.st < t.en then 4 else if ¬ t.Own then 2 else if 9000000000000000000 < t.mo * t.ra then 2 else 0
theorem Tm.bad {t : Tm} (h : ¬ t.Form) : t.code = 1 := by unfold Tm.code; rw [if_pos h]
theorem Tm.noDay {t : Tm} (h : t.Form) (h2 : ¬ t.Days) : t.code = 3 := by unfold Tm.code; rw [if_neg (fun g => g h), if_pos h2]
theorem Tm.turned {t : Tm} (h : t.Form) (h2 : t.Days) (h3 : ¬ t.st < t.en) : t.code = 4 := by unfold Tm.code; rw [if_neg (fun g => g h), if_neg (fun g => g h2), if_pos h3]
theorem Tm.over {t : Tm} (h : t.Form) (h2 : t.Days) (h3 : t.st < t.en) (h4 : ¬ t.Own) : t.code = 2 := by unfold Tm.code; rw [if_neg (fun g => g h), if_neg (fun g => g h2), if_neg (fun g => g h3), if_pos h4]
theorem Tm.both {t : Tm} (h : t.Form) (h2 : t.Days) (h3 : t.st < t.en) (h4 : t.Own) (h5 : 9000000000000000000 < t.mo * t.ra) : t.code = 2 := by unfold Tm.code; rw [if_neg (fun g => g h), if_neg (fun g => g h2), if_neg (fun g => g h3), if_neg (fun g => g h4), if_pos h5]
theorem Tm.may {t : Tm} (h : t.Form) (h2 : t.Days) (h3 : t.st < t.en) (h4 : t.Own) (h5 : t.mo * t.ra ≤ 9000000000000000000) : t.code = 0 := by unfold Tm.code; rw [if_neg (fun g => g h), if_neg (fun g => g h2), if_neg (fun g => g h3), if_neg (fun g => g h4), if_neg (by omega)]
/-- Terms that may be, and what they are then. -/
theorem Tm.of_zero {t : Tm} (h : t.code = 0) : t.Form ∧ t.Days ∧ t.st < t.en ∧ t.Own ∧ t.mo * t.ra ≤ 9000000000000000000 := by
  unfold Tm.code at h
  by_cases h1 : t.Form
  · rw [if_neg (fun g => g h1)] at h
    by_cases h2 : t.Days
    · rw [if_neg (fun g => g h2)] at h
      by_cases h3 : t.st < t.en
      · rw [if_neg (fun g => g h3)] at h
        by_cases h4 : t.Own
        · rw [if_neg (fun g => g h4)] at h
          by_cases h5 : 9000000000000000000 < t.mo * t.ra
          · rw [if_pos h5] at h; omega
          · exact ⟨h1, h2, h3, h4, by omega⟩
        · rw [if_pos h4] at h; omega
      · rw [if_pos h3] at h; omega
    · rw [if_pos h2] at h; omega
  · rw [if_pos h1] at h; omega
/-- The bound, divided. -/
theorem bound_div {m r : Int} (hr : 0 < r) : 9000000000000000000 / r < m ↔ 9000000000000000000 < m * r :=
  Int.ediv_lt_iff_lt_mul hr
end Go.Proofs.YtjijgcgbnmobfaaGreatDoor
