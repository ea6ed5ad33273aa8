/- Numbers by parts of four digits, the lowest first: what a row of parts tells. No program in this text. -/
namespace Go.Proofs.YtmaioofcmgaakaaGreatDoor

/-- The number that a row of parts tells. -/
def bv : List Int → Int
  | [] => 0
  | d :: r => d + 10000 * bv r
/-- Each part is from 0 to 9999. -/
def Dig (l : List Int) : Prop := ∀ d ∈ l, 0 ≤ d ∧ d ≤ 9999
def p4 (k : Nat) : Int := 10000 ^ k

theorem p4_zero : p4 0 = 1 := rfl
theorem p4_succ (k : Nat) : p4 (k + 1) = 10000 * p4 k := by unfold p4; rw [Int.pow_succ, Int.mul_comm]
theorem p4_pos (k : Nat) : 0 < p4 k := Int.pow_pos (by decide)
theorem p4_add (a b : Nat) : p4 (a + b) = p4 a * p4 b := by unfold p4; exact Int.pow_add _ _ _
theorem p4_mono {a b : Nat} (h : a ≤ b) : p4 a ≤ p4 b := by
  induction b with
  | zero => have : a = 0 := by omega
            subst this; exact Int.le_refl _
  | succ b ih =>
    by_cases e : a = b + 1
    · subst e; exact Int.le_refl _
    · have := ih (by omega); have := p4_pos b; rw [p4_succ]; omega

theorem bv_nil : bv [] = 0 := rfl
theorem bv_cons (d : Int) (r : List Int) : bv (d :: r) = d + 10000 * bv r := rfl
theorem bv_append (l r : List Int) : bv (l ++ r) = bv l + p4 l.length * bv r := by
  induction l with
  | nil => rw [List.nil_append, bv_nil, List.length_nil, p4_zero]; omega
  | cons d l ih => rw [List.cons_append, bv_cons, bv_cons, ih, List.length_cons, p4_succ, Int.mul_assoc, Int.mul_add]; omega
theorem bv_snoc (l : List Int) (d : Int) : bv (l ++ [d]) = bv l + p4 l.length * d := by
  rw [bv_append, bv_cons, bv_nil]; simp
theorem dig_nil : Dig [] := fun d h => by cases h
theorem dig_snoc {l : List Int} {d : Int} (h : Dig l) (h0 : 0 ≤ d) (h1 : d ≤ 9999) : Dig (l ++ [d]) := by
  intro x hx
  rcases List.mem_append.1 hx with hx | hx
  · exact h x hx
  · have : x = d := by simpa using hx
    subst this; exact ⟨h0, h1⟩
theorem dig_getD {l : List Int} (h : Dig l) (k : Nat) : 0 ≤ l.getD k 0 ∧ l.getD k 0 ≤ 9999 := by
  by_cases hk : k < l.length
  · have e : l.getD k 0 = l[k] := by simp [List.getD, List.getElem?_eq_getElem hk]
    rw [e]; exact h _ (List.getElem_mem hk)
  · have e : l.getD k 0 = 0 := by simp [List.getD, List.getElem?_eq_none (by omega : l.length ≤ k)]
    rw [e]; decide
theorem bv_bd {l : List Int} (h : Dig l) : 0 ≤ bv l ∧ bv l < p4 l.length := by
  induction l with
  | nil => rw [bv_nil, List.length_nil, p4_zero]; decide
  | cons d l ih =>
    have hd := h d (by simp)
    have hl := ih (fun x hx => h x (by simp [hx]))
    rw [bv_cons, List.length_cons, p4_succ]
    omega

/-- The first k parts, with noughts behind the last one. -/
def pad (l : List Int) (k : Nat) : List Int := (List.range k).map fun i => l.getD i 0
theorem pad_length (l : List Int) (k : Nat) : (pad l k).length = k := by simp [pad]
theorem pad_succ (l : List Int) (k : Nat) : pad l (k + 1) = pad l k ++ [l.getD k 0] := by simp [pad, List.range_succ]
theorem bv_pad_succ (l : List Int) (k : Nat) : bv (pad l (k + 1)) = bv (pad l k) + p4 k * l.getD k 0 := by rw [pad_succ, bv_snoc, pad_length]
theorem dig_pad {l : List Int} (h : Dig l) (k : Nat) : Dig (pad l k) := by
  intro x hx
  obtain ⟨i, _, rfl⟩ := List.mem_map.1 hx
  exact dig_getD h i
theorem pad_all (l : List Int) : pad l l.length = l := by
  apply List.ext_getElem
  · simp [pad]
  · intro i h1 h2
    simp [pad, h2]
theorem bv_pad (l : List Int) (k : Nat) (h : l.length ≤ k) : bv (pad l k) = bv l := by
  obtain ⟨j, rfl⟩ : ∃ j, k = l.length + j := ⟨k - l.length, by omega⟩
  clear h
  induction j with
  | zero => rw [Nat.add_zero, pad_all]
  | succ j ih =>
    rw [show l.length + (j + 1) = l.length + j + 1 from rfl, bv_pad_succ, ih, List.getD, List.getElem?_eq_none (by omega)]
    simp
/-- Of a row's parts from k on. -/
theorem bv_split (l : List Int) (k : Nat) : ∃ r, bv l = bv (pad l k) + p4 k * r := by
  by_cases h : l.length ≤ k
  · exact ⟨0, by rw [bv_pad l k h]; omega⟩
  · refine ⟨bv (l.drop k), ?_⟩
    have e : pad l k = l.take k := by
      apply List.ext_getElem
      · simp [pad]; omega
      · intro i h1 h2
        simp at h2
        simp [pad, List.getElem?_eq_getElem (by omega : i < l.length)]
    have := bv_append (l.take k) (l.drop k)
    rw [List.take_append_drop] at this
    rw [this, e]
    have el : (l.take k).length = k := by simp; omega
    rw [el]
end Go.Proofs.YtmaioofcmgaakaaGreatDoor
