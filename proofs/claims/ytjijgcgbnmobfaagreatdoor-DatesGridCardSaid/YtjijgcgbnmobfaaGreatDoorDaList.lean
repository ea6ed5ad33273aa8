/- Layer 16 in plain numbers: lists of steps, and of a loan's days. No program in this text. -/
import Derived.Test.YtjijgcgbnmobfaaGreatDoorDaNum
namespace Go.Proofs.YtjijgcgbnmobfaaGreatDoor
set_option linter.unusedVariables false

/-- The first n days as a list; a list as days. -/
def dl (X : Nat → Int) (n : Nat) : List Int := (List.range n).map X
def ld (l : List Int) (i : Nat) : Int := l.getD i 0
theorem dl_len (X : Nat → Int) (n : Nat) : (dl X n).length = n := by simp [dl]
theorem dl_mem {X : Nat → Int} {n : Nat} {z : Int} : z ∈ dl X n ↔ ∃ j, j < n ∧ X j = z := by simp [dl]
theorem dl_at {X : Nat → Int} {n j : Nat} (h : j < n) : (dl X n)[j]? = some (X j) := by simp [dl, h]
theorem dl_ld (l : List Int) : dl (ld l) l.length = l := by
  apply List.ext_getElem
  · rw [dl_len]
  · intro i a b
    simp [dl, ld, b]
theorem dl_ext {X Y : Nat → Int} {n : Nat} (h : ∀ i, i < n → X i = Y i) : dl X n = dl Y n := by
  apply List.ext_getElem
  · rw [dl_len, dl_len]
  · intro i a b
    rw [dl_len] at a
    simp [dl, h i a]
theorem dl_succ (X : Nat → Int) (n : Nat) : dl X (n + 1) = dl X n ++ [X n] := by simp [dl, List.range_succ]
theorem dl_cons (X : Nat → Int) (n : Nat) : dl X (n + 1) = X 0 :: dl (fun i => X (i + 1)) n := by
  unfold dl
  rw [List.range_succ_eq_map]
  simp [Function.comp_def]
theorem dl_rev (X : Nat → Int) (n : Nat) : (dl X n).reverse = dl (fun i => X (n - 1 - i)) n := by
  apply List.ext_getElem
  · rw [List.length_reverse, dl_len, dl_len]
  · intro i a b
    rw [dl_len] at b
    simp [dl]
theorem dl_take (X : Nat → Int) {n k : Nat} (h : k ≤ n) : (dl X n).take k = dl X k := by
  apply List.ext_getElem
  · rw [List.length_take, dl_len, dl_len]; omega
  · intro i a b
    simp [dl]
theorem dl_skip (X : Nat → Int) (n k : Nat) : (dl X n).drop k = dl (fun i => X (k + i)) (n - k) := by
  apply List.ext_getElem
  · rw [List.length_drop, dl_len, dl_len]
  · intro i a b
    simp [dl]
theorem ld_dl {X : Nat → Int} {n j : Nat} (h : j < n) : ld (dl X n) j = X j := by simp [ld, dl, h]

/-- How many steps a grid has. -/
def gl (E : Nat → Int) (m : Nat) : Nat := if E m = 0 then m + 1 else m
theorem gl_bd (E : Nat → Int) (m : Nat) : m ≤ gl E m ∧ gl E m ≤ m + 1 := by unfold gl; split <;> omega
/-- A grid, its days between the loan's ends, those that are kept, and the loan's days. -/
def Tm.grid (t : Tm) (X : Nat → Int) (K : Nat) : List Int := if t.bk = true then (dl X K).reverse else dl X K
def Tm.inn (t : Tm) (g : List Int) : List Int := g.filter t.btw
def Tm.kept (t : Tm) (g : List Int) : List Int := if t.lg = true ∧ t.inn g ≠ [] ∧ t.ot ∉ g then (if t.bk = true then (t.inn g).drop 1 else (t.inn g).take ((t.inn g).length - 1)) else t.inn g
def Tm.days (t : Tm) (g : List Int) : List Int := t.st :: (t.kept g ++ [t.en])
theorem Tm.grid_len (t : Tm) (X : Nat → Int) (K : Nat) : (t.grid X K).length = K := by unfold Tm.grid; split <;> simp [dl]
theorem Tm.inn_len (t : Tm) (g : List Int) : (t.inn g).length ≤ g.length := List.length_filter_le _ _
theorem Tm.kept_len (t : Tm) (g : List Int) : (t.kept g).length ≤ g.length := by
  have := t.inn_len g
  unfold Tm.kept
  split
  · split
    · rw [List.length_drop]; omega
    · rw [List.length_take]; omega
  · exact this
theorem Tm.days_len (t : Tm) (g : List Int) : (t.days g).length = (t.kept g).length + 2 := by simp [Tm.days]
theorem Tm.days_app (t : Tm) (g : List Int) : t.days g = [t.st] ++ t.kept g ++ [t.en] := by simp [Tm.days]
/-- The i-th one of a loan's days, if q of its steps lie between. -/
def Tm.dd (t : Tm) (X : Nat → Int) (q i : Nat) : Int := if t.bk = true then (if i = 0 then t.st else X (q + 1 - i)) else (if i ≤ q then X i else t.en)
variable {t : Tm} {X E : Nat → Int} {m : Nat}
theorem filter_all {l : List Int} {p : Int → Bool} (h : ∀ z ∈ l, p z = true) : l.filter p = l := List.filter_eq_self.2 h
theorem Tm.Walk.inn0 (h : t.Walk X E m) : t.inn (dl X (gl E m)) = dl (fun i => X (i + 1)) (m - 1) := by
  have one := h.one
  have a0 : t.btw (X 0) = false := by
    rw [t.btw_not, h.x0]; unfold Tm.an; split
    · right; exact Int.le_refl _
    · left; exact Int.le_refl _
  obtain ⟨n, rfl⟩ : ∃ n, m = n + 1 := ⟨m - 1, by omega⟩
  have base : (dl X (n + 1)).filter t.btw = dl (fun i => X (i + 1)) n := by
    rw [dl_cons, List.filter_cons_of_neg (by rw [a0]; decide)]
    refine filter_all fun z hz => ?_
    rw [dl_mem] at hz
    obtain ⟨j, hj, rfl⟩ := hz
    rw [t.btw_iff]
    exact (h.mid (j + 1) (by omega) (by omega)).2
  unfold Tm.inn gl
  rw [show n + 1 - 1 = n by omega]
  split
  · next c =>
    have := h.last c
    rw [dl_succ, List.filter_append, base, List.filter_cons_of_neg (by rw [Bool.not_eq_true, t.btw_not]; omega)]
    simp
  · exact base
theorem Tm.Walk.inn1 (h : t.Walk X E m) : t.inn (t.grid X (gl E m)) = if t.bk = true then (dl (fun i => X (i + 1)) (m - 1)).reverse else dl (fun i => X (i + 1)) (m - 1) := by
  have e := h.inn0
  unfold Tm.grid
  split
  · unfold Tm.inn at *
    rw [List.filter_reverse, e]
  · exact e
theorem Tm.Walk.inn_len (h : t.Walk X E m) : (t.inn (t.grid X (gl E m))).length = m - 1 := by
  rw [h.inn1]; split <;> simp [dl]
theorem Tm.grid_mem {K : Nat} {z : Int} : z ∈ t.grid X K ↔ ∃ j, j < K ∧ X j = z := by
  unfold Tm.grid
  split
  · rw [List.mem_reverse, dl_mem]
  · rw [dl_mem]
/-- The other end is a step just if it is the last one. -/
theorem Tm.Walk.stub (h : t.Walk X E m) (ho : t.st < t.en) : t.ot ∈ t.grid X (gl E m) ↔ E m = 0 ∧ X m = t.ot := by
  rw [Tm.grid_mem]
  constructor
  · rintro ⟨j, hj, e⟩
    by_cases c : j = 0
    · subst c
      rw [h.x0] at e
      unfold Tm.an Tm.ot at e
      split at e <;> omega
    · by_cases g : j < m
      · have := (h.mid j (by omega) g).2
        unfold Tm.ot at e
        split at e <;> omega
      · unfold gl at hj
        split at hj
        · next z => exact ⟨z, by rw [← show j = m by omega]; exact e⟩
        · omega
  · rintro ⟨e, g⟩
    exact ⟨m, by unfold gl; rw [if_pos e]; omega, g⟩
/-- How many steps between are kept. -/
def Tm.q (t : Tm) (X E : Nat → Int) (m : Nat) : Nat := if t.lg = true ∧ 2 ≤ m ∧ ¬ (E m = 0 ∧ X m = t.ot) then m - 2 else m - 1
theorem Tm.q_bd (t : Tm) (X E : Nat → Int) (m : Nat) : t.q X E m ≤ m - 1 := by unfold Tm.q; split <;> omega
theorem Tm.Walk.days_is (h : t.Walk X E m) (ho : t.st < t.en) : t.days (t.grid X (gl E m)) = dl (t.dd X (t.q X E m)) (t.q X E m + 2) := by
  have hl := h.inn_len
  have hs := h.stub ho
  have one := h.one
  have hk : t.kept (t.grid X (gl E m)) = if t.bk = true then dl (fun i => X (t.q X E m - i)) (t.q X E m) else dl (fun i => X (i + 1)) (t.q X E m) := by
    have c0 : (t.inn (t.grid X (gl E m)) ≠ []) ↔ 2 ≤ m := by
      rw [ne_eq, ← List.length_eq_zero_iff, hl]; omega
    have cc : (t.lg = true ∧ t.inn (t.grid X (gl E m)) ≠ [] ∧ t.ot ∉ t.grid X (gl E m)) ↔ (t.lg = true ∧ 2 ≤ m ∧ ¬ (E m = 0 ∧ X m = t.ot)) := by
      rw [c0, hs]
    unfold Tm.kept Tm.q
    by_cases c : t.lg = true ∧ 2 ≤ m ∧ ¬ (E m = 0 ∧ X m = t.ot)
    · rw [if_pos (cc.2 c), if_pos c, hl, h.inn1]
      by_cases b : t.bk = true
      · rw [if_pos b, if_pos b, if_pos b, dl_rev, dl_skip]
        rw [show m - 1 - 1 = m - 2 by omega]
        exact dl_ext fun i hi => by rw [show m - 2 - (1 + i) + 1 = m - 2 - i by omega]
      · rw [if_neg b, if_neg b, if_neg b, dl_take _ (by omega), show m - 1 - 1 = m - 2 by omega]
    · rw [if_neg (fun g => c (cc.1 g)), if_neg c, h.inn1]
      by_cases b : t.bk = true
      · rw [if_pos b, if_pos b, dl_rev]
        exact dl_ext fun i hi => by rw [show m - 1 - 1 - i + 1 = m - 1 - i by omega]
      · rw [if_neg b, if_neg b]
  unfold Tm.days
  rw [hk]
  generalize t.q X E m = q
  rw [dl_cons]
  by_cases b : t.bk = true
  · have x0 : X 0 = t.en := by rw [h.x0]; unfold Tm.an; rw [if_pos b]
    rw [if_pos b, show t.dd X q 0 = t.st by unfold Tm.dd; rw [if_pos b, if_pos rfl], dl_succ]
    congr 1
    congr 1
    · exact dl_ext fun i hi => by unfold Tm.dd; rw [if_pos b, if_neg (by omega), show q + 1 - (i + 1) = q - i by omega]
    · unfold Tm.dd
      rw [if_pos b, if_neg (by omega), show q + 1 - (q + 1) = 0 by omega, x0]
  · have x0 : X 0 = t.st := by rw [h.x0]; unfold Tm.an; rw [if_neg b]
    rw [if_neg b, show t.dd X q 0 = t.st by unfold Tm.dd; rw [if_neg b, if_pos (by omega), x0], dl_succ]
    congr 1
    congr 1
    · exact dl_ext fun i hi => by unfold Tm.dd; rw [if_neg b, if_pos (by omega)]
    · unfold Tm.dd
      rw [if_neg b, if_neg (by omega)]
end Go.Proofs.YtjijgcgbnmobfaaGreatDoor
