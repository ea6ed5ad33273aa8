/- Layer 13 in plain numbers: how many days of business whole weeks have. -/
import Derived.Test.YtkadodkdbopgnaaDoorCaShown
namespace Go.Proofs.YtkadodkdbopgnaaDoor
set_option linter.unusedVariables false

/-- How many of the first j days of the week aren't off. -/
def opn (o : Nat → Bool) : Nat → Int
  | 0 => 0
  | j + 1 => opn o j + if o j = false then 1 else 0
theorem opn_succ (o : Nat → Bool) (j : Nat) : opn o (j + 1) = opn o j + if o j = false then 1 else 0 := rfl
theorem opn_bd (o : Nat → Bool) : ∀ j : Nat, 0 ≤ opn o j ∧ opn o j ≤ j
  | 0 => by unfold opn; omega
  | j + 1 => by have := opn_bd o j; rw [opn_succ]; split <;> omega
theorem wib (o : Nat → Bool) (n : Int) (h : dy n) : (wcal o).ib n = !(o (wk n).toNat) := by
  rw [Bool.eq_iff_iff, Ca.ib_iff, wcal_is]
  constructor
  · rintro ⟨_, g⟩; rw [g]; rfl
  · intro g; exact ⟨h, by simpa using g⟩
theorem dib (o : Nat → Bool) (m n : Int) : (dcal o m).ib n = ((wcal o).ib n && decide (m ≠ n)) := by
  rw [Bool.eq_iff_iff, Ca.ib_iff, dcal_is, Bool.and_eq_true, Ca.ib_iff, wcal_is, decide_eq_true_eq]
theorem week7 (o : Nat → Bool) (n : Int) (h1 : 1 ≤ n) (h2 : n + 6 ≤ 3652059) : (wcal o).cnt n 7 = opn o 7 := by
  have w : ∀ j : Nat, j < 7 → ((if (wcal o).ib (n + j) = true then 1 else 0 : Int) = if o (wk (n + j)).toNat = false then 1 else 0) := fun j hj => by
    rw [wib o (n + j) ⟨by omega, by omega⟩]
    cases o (wk (n + j)).toNat <;> rfl
  have e : (wcal o).cnt n 7 = (if o (wk (n + (0 : Nat))).toNat = false then 1 else 0) + (if o (wk (n + (1 : Nat))).toNat = false then 1 else 0) + (if o (wk (n + (2 : Nat))).toNat = false then 1 else 0) + (if o (wk (n + (3 : Nat))).toNat = false then 1 else 0) + (if o (wk (n + (4 : Nat))).toNat = false then 1 else 0) + (if o (wk (n + (5 : Nat))).toNat = false then 1 else 0) + (if o (wk (n + (6 : Nat))).toNat = false then 1 else 0) := by
    rw [← w 0 (by decide), ← w 1 (by decide), ← w 2 (by decide), ← w 3 (by decide), ← w 4 (by decide), ← w 5 (by decide), ← w 6 (by decide)]
    show (0 : Int) + _ + _ + _ + _ + _ + _ + _ = _
    rw [Int.zero_add]
  have g : opn o 7 = (if o 0 = false then 1 else 0) + (if o 1 = false then 1 else 0) + (if o 2 = false then 1 else 0) + (if o 3 = false then 1 else 0) + (if o 4 = false then 1 else 0) + (if o 5 = false then 1 else 0) + (if o 6 = false then 1 else 0) := by
    show (0 : Int) + _ + _ + _ + _ + _ + _ + _ = _
    rw [Int.zero_add]
  rw [e, g]
  obtain ⟨v, hv, v7⟩ := wk_nat n
  have k : ∀ j : Nat, j < 7 → (wk (n + j)).toNat = (v + j) % 7 := fun j hj => by
    unfold wk at hv ⊢
    omega
  rw [k 0 (by decide), k 1 (by decide), k 2 (by decide), k 3 (by decide), k 4 (by decide), k 5 (by decide), k 6 (by decide)]
  generalize hb : (fun i => (if o i = false then 1 else 0 : Int)) = b
  have hb2 : ∀ i, (if o i = false then 1 else 0 : Int) = b i := fun i => by rw [← hb]
  simp only [hb2]
  match v, v7 with
  | 0, _ => (first | (simp; done) | (simp; omega))
  | 1, _ => (first | (simp; done) | (simp; omega))
  | 2, _ => (first | (simp; done) | (simp; omega))
  | 3, _ => (first | (simp; done) | (simp; omega))
  | 4, _ => (first | (simp; done) | (simp; omega))
  | 5, _ => (first | (simp; done) | (simp; omega))
  | 6, _ => (first | (simp; done) | (simp; omega))
theorem weeks (o : Nat → Bool) (n : Int) (h1 : 1 ≤ n) : ∀ k : Nat, n + 7 * k ≤ 3652060 → (wcal o).cnt n (7 * k) = k * opn o 7
  | 0, _ => by show (0 : Int) = _; simp
  | k + 1, h => by
    rw [show 7 * (k + 1) = 7 * k + 7 by omega, Ca.cnt_add, weeks o n h1 k (by omega), week7 o _ (by omega) (by omega)]
    rw [show ((k + 1 : Nat) : Int) = k + 1 by omega, Int.add_mul]
    omega
/-- With a day told, fewer by it, if it would be one of business. -/
theorem dcnt (o : Nat → Bool) (m a : Int) (hm : dy m) : ∀ k : Nat, (dcal o m).cnt a k = (wcal o).cnt a k - if (a ≤ m ∧ m < a + k) ∧ o (wk m).toNat = false then 1 else 0
  | 0 => by
    show (0 : Int) = 0 - _
    rw [if_neg (by omega)]; rfl
  | k + 1 => by
    rw [Ca.cnt_succ, Ca.cnt_succ, dcnt o m a hm k, dib]
    by_cases e : m = a + k
    · have t : decide (m ≠ a + k) = false := by simpa using e
      have c1 : (if (a ≤ m ∧ m < a + (k : Int)) ∧ o (wk m).toNat = false then 1 else 0 : Int) = 0 := if_neg (fun g => by have := g.1; omega)
      have c2 : (if (wcal o).ib (a + k) = true then 1 else 0 : Int) = if o (wk m).toNat = false then 1 else 0 := by
        rw [← e, wib o m hm]
        cases o (wk m).toNat <;> rfl
      have c3 : (if (a ≤ m ∧ m < a + ((k + 1 : Nat) : Int)) ∧ o (wk m).toNat = false then 1 else 0 : Int) = if o (wk m).toNat = false then 1 else 0 := by
        by_cases h : o (wk m).toNat = false
        · rw [if_pos ⟨⟨by omega, by omega⟩, h⟩, if_pos h]
        · rw [if_neg (fun g => h g.2), if_neg h]
      rw [c1, t, Bool.and_false, c2, c3, if_neg (by decide)]
      generalize (if o (wk m).toNat = false then 1 else 0 : Int) = z
      omega
    · have t : decide (m ≠ a + k) = true := by simpa using e
      have c4 : (if (a ≤ m ∧ m < a + (k : Int)) ∧ o (wk m).toNat = false then 1 else 0 : Int) = if (a ≤ m ∧ m < a + ((k + 1 : Nat) : Int)) ∧ o (wk m).toNat = false then 1 else 0 := by
        by_cases h : (a ≤ m ∧ m < a + (k : Int)) ∧ o (wk m).toNat = false
        · rw [if_pos h, if_pos ⟨⟨h.1.1, by have := h.1.2; omega⟩, h.2⟩]
        · rw [if_neg h, if_neg (fun g => h ⟨⟨g.1.1, by have := g.1.2; omega⟩, g.2⟩)]
      rw [c4, t, Bool.and_true]
      generalize (if (a ≤ m ∧ m < a + ((k + 1 : Nat) : Int)) ∧ o (wk m).toNat = false then 1 else 0 : Int) = z
      generalize (if (wcal o).ib (a + k) = true then 1 else 0 : Int) = y
      omega
end Go.Proofs.YtkadodkdbopgnaaDoor
