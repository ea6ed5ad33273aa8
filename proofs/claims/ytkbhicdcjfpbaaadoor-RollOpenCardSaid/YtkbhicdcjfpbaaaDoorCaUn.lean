/- Layer 13 in plain numbers: unions of calendars: days of both, rising, each once; which days of a union are days of business. No program in this text. -/
import Derived.Test.YtkbhicdcjfpbaaaDoorCaNum
namespace Go.Proofs.YtkbhicdcjfpbaaaDoor
set_option linter.unusedVariables false

/-- Days of both, rising, each once. -/
def mg : List Int → List Int → List Int
  | [], ys => ys
  | x :: xs, [] => x :: xs
  | x :: xs, y :: ys => if x < y then x :: mg xs (y :: ys) else if x = y then y :: mg xs ys else y :: mg (x :: xs) ys
termination_by xs ys => xs.length + ys.length
theorem mg_nil (ys : List Int) : mg [] ys = ys := by unfold mg; rfl
theorem mg_right : ∀ xs : List Int, mg xs [] = xs
  | [] => mg_nil []
  | _ :: _ => by unfold mg; rfl
theorem mg_lt {x y : Int} (xs ys : List Int) (h : x < y) : mg (x :: xs) (y :: ys) = x :: mg xs (y :: ys) := by
  rw [mg]; exact if_pos h
theorem mg_eq {x y : Int} (xs ys : List Int) (h : x = y) : mg (x :: xs) (y :: ys) = y :: mg xs ys := by
  rw [mg, if_neg (by omega)]; exact if_pos h
theorem mg_gt {x y : Int} (xs ys : List Int) (h : y < x) : mg (x :: xs) (y :: ys) = y :: mg (x :: xs) ys := by
  rw [mg, if_neg (by omega)]; exact if_neg (by omega)
theorem mem_mg {z : Int} : ∀ xs ys : List Int, z ∈ mg xs ys ↔ z ∈ xs ∨ z ∈ ys
  | [], ys => by rw [mg_nil]; simp
  | x :: xs, [] => by rw [mg_right]; simp
  | x :: xs, y :: ys => by
    by_cases h : x < y
    · rw [mg_lt xs ys h, List.mem_cons, mem_mg xs (y :: ys), List.mem_cons (l := xs)]
      exact or_assoc.symm
    · by_cases g : x = y
      · rw [mg_eq xs ys g, List.mem_cons, mem_mg xs ys, List.mem_cons, List.mem_cons, g]
        constructor
        · rintro (a | a | a)
          · exact Or.inl (Or.inl a)
          · exact Or.inl (Or.inr a)
          · exact Or.inr (Or.inr a)
        · rintro ((a | a) | (a | a))
          · exact Or.inl a
          · exact Or.inr (Or.inl a)
          · exact Or.inl a
          · exact Or.inr (Or.inr a)
      · rw [mg_gt xs ys (by omega), List.mem_cons, mem_mg (x :: xs) ys, List.mem_cons, List.mem_cons]
        constructor
        · rintro (a | a | a)
          · exact Or.inr (Or.inl a)
          · exact Or.inl a
          · exact Or.inr (Or.inr a)
        · rintro (a | (a | a))
          · exact Or.inr (Or.inl a)
          · exact Or.inl a
          · exact Or.inr (Or.inr a)
termination_by xs ys => xs.length + ys.length
theorem rise_mg : ∀ xs ys : List Int, xs.Pairwise (· < ·) → ys.Pairwise (· < ·) → (mg xs ys).Pairwise (· < ·)
  | [], ys, _, hy => by rw [mg_nil]; exact hy
  | x :: xs, [], hx, _ => by rw [mg_right]; exact hx
  | x :: xs, y :: ys, hx, hy => by
    have hx2 := List.pairwise_cons.1 hx
    have hy2 := List.pairwise_cons.1 hy
    by_cases h : x < y
    · rw [mg_lt xs ys h]
      refine List.pairwise_cons.2 ⟨fun z hz => ?_, rise_mg xs (y :: ys) hx2.2 hy⟩
      rcases (mem_mg xs (y :: ys)).1 hz with a | a
      · exact hx2.1 z a
      · rcases List.mem_cons.1 a with a | a
        · omega
        · have := hy2.1 z a; omega
    · by_cases g : x = y
      · rw [mg_eq xs ys g]
        refine List.pairwise_cons.2 ⟨fun z hz => ?_, rise_mg xs ys hx2.2 hy2.2⟩
        rcases (mem_mg xs ys).1 hz with a | a
        · have := hx2.1 z a; omega
        · exact hy2.1 z a
      · rw [mg_gt xs ys (by omega)]
        refine List.pairwise_cons.2 ⟨fun z hz => ?_, rise_mg (x :: xs) ys hx hy2.2⟩
        rcases (mem_mg (x :: xs) ys).1 hz with a | a
        · rcases List.mem_cons.1 a with a | a
          · omega
          · have := hx2.1 z a; omega
        · exact hy2.1 z a
termination_by xs ys => xs.length + ys.length
theorem len_mg : ∀ xs ys : List Int, (mg xs ys).length ≤ xs.length + ys.length ∧ xs.length ≤ (mg xs ys).length ∧ ys.length ≤ (mg xs ys).length
  | [], ys => by rw [mg_nil]; simp
  | x :: xs, [] => by rw [mg_right]; simp
  | x :: xs, y :: ys => by
    by_cases h : x < y
    · have := len_mg xs (y :: ys)
      rw [mg_lt xs ys h]; simp only [List.length_cons] at this ⊢; omega
    · by_cases g : x = y
      · have := len_mg xs ys
        rw [mg_eq xs ys g]; simp only [List.length_cons] at this ⊢; omega
      · have := len_mg (x :: xs) ys
        rw [mg_gt xs ys (by omega)]; simp only [List.length_cons] at this ⊢; omega
termination_by xs ys => xs.length + ys.length

/-- The first n days as a list; a list as days. -/
def dl (X : Nat → Int) (n : Nat) : List Int := (List.range n).map X
def ld (l : List Int) (i : Nat) : Int := l.getD i 0
theorem dl_len (X : Nat → Int) (n : Nat) : (dl X n).length = n := by simp [dl]
theorem dl_mem {X : Nat → Int} {n : Nat} {z : Int} : z ∈ dl X n ↔ ∃ j, j < n ∧ X j = z := by simp [dl]
theorem dl_at {X : Nat → Int} {n j : Nat} (h : j < n) : (dl X n)[j]? = some (X j) := by simp [dl, h]
theorem dl_ld (l : List Int) : dl (ld l) l.length = l := by
  apply List.ext_getElem
  · rw [dl_len]
  · intro i a b
    simp [dl, ld, b]
theorem dl_rise {X : Nat → Int} {n : Nat} (h : ∀ j, j + 1 < n → X j < X (j + 1)) : (dl X n).Pairwise (· < ·) := by
  have key : ∀ (d i : Nat), i + d + 1 < n → X i < X (i + d + 1) := fun d => by
    induction d with
    | zero => exact fun i hi => h i (by omega)
    | succ d ih => exact fun i hi => Int.lt_trans (ih i (by omega)) (h (i + d + 1) (by omega))
  rw [List.pairwise_iff_getElem]
  intro i j hi hj hij
  rw [dl_len] at hi hj
  have := key (j - i - 1) i (by omega)
  rw [show i + (j - i - 1) + 1 = j by omega] at this
  simpa [dl] using this
theorem ld_rise {l : List Int} (h : l.Pairwise (· < ·)) : ∀ j, j + 1 < l.length → ld l j < ld l (j + 1) := fun j hj => by
  rw [List.pairwise_iff_getElem] at h
  have := h j (j + 1) (by omega) hj (by omega)
  simpa [ld, List.getElem?_eq_getElem (show j < l.length by omega), List.getElem?_eq_getElem hj] using this
theorem ld_mem {l : List Int} {j : Nat} (h : j < l.length) : ld l j ∈ l := by
  have : ld l j = l[j] := by simp [ld, h]
  rw [this]; exact List.getElem_mem h
theorem ld_ne {l : List Int} {n : Int} : (∀ j, j < l.length → ld l j ≠ n) ↔ n ∉ l := by
  constructor
  · intro h hn
    rw [← dl_ld l, dl_mem] at hn
    obtain ⟨j, hj, e⟩ := hn
    exact h j hj e
  · intro h j hj e
    exact h (e ▸ ld_mem hj)

/-- The union. -/
def Ca.un (a b : Ca) : Ca where
  o := fun i => a.o i || b.o i
  nr := a.nr + b.nr
  R := fun j => if j < a.nr then a.R j else b.R (j - a.nr)
  nd := (mg (dl a.X a.nd) (dl b.X b.nd)).length
  X := ld (mg (dl a.X a.nd) (dl b.X b.nd))
theorem un_days (a b : Ca) (n : Int) : (∀ j, j < (a.un b).nd → (a.un b).X j ≠ n) ↔ (∀ j, j < a.nd → a.X j ≠ n) ∧ ∀ j, j < b.nd → b.X j ≠ n := by
  show (∀ j, j < (mg (dl a.X a.nd) (dl b.X b.nd)).length → ld (mg (dl a.X a.nd) (dl b.X b.nd)) j ≠ n) ↔ _
  rw [ld_ne, mem_mg, dl_mem, dl_mem]
  constructor
  · intro h
    exact ⟨fun j hj e => h (Or.inl ⟨j, hj, e⟩), fun j hj e => h (Or.inr ⟨j, hj, e⟩)⟩
  · rintro ⟨h1, h2⟩ (⟨j, hj, e⟩ | ⟨j, hj, e⟩)
    · exact h1 j hj e
    · exact h2 j hj e
theorem un_rules (a b : Ca) (P : Ru → Prop) : (∀ j, j < (a.un b).nr → P ((a.un b).R j)) ↔ (∀ j, j < a.nr → P (a.R j)) ∧ ∀ j, j < b.nr → P (b.R j) := by
  show (∀ j, j < a.nr + b.nr → P (if j < a.nr then a.R j else b.R (j - a.nr))) ↔ _
  constructor
  · intro h
    refine ⟨fun j hj => ?_, fun j hj => ?_⟩
    · have := h j (by omega)
      rwa [if_pos hj] at this
    · have := h (a.nr + j) (by omega)
      rwa [if_neg (by omega), show a.nr + j - a.nr = j by omega] at this
  · rintro ⟨h1, h2⟩ j hj
    by_cases c : j < a.nr
    · rw [if_pos c]; exact h1 j c
    · rw [if_neg c]; exact h2 _ (by omega)
/-- A day is one of business of a union just if it is one of both. -/
theorem un_is (a b : Ca) (n : Int) : (a.un b).Is n ↔ a.Is n ∧ b.Is n := by
  unfold Ca.Is
  rw [un_days, un_rules a b (fun r => ¬ r.Is n)]
  have o : (a.un b).o (wk n).toNat = false ↔ a.o (wk n).toNat = false ∧ b.o (wk n).toNat = false := by
    show (a.o (wk n).toNat || b.o (wk n).toNat) = false ↔ _
    rw [Bool.or_eq_false_iff]
  rw [o]
  constructor
  · rintro ⟨d, ⟨o1, o2⟩, ⟨x1, x2⟩, r1, r2⟩
    exact ⟨⟨d, o1, x1, r1⟩, d, o2, x2, r2⟩
  · rintro ⟨⟨d, o1, x1, r1⟩, _, o2, x2, r2⟩
    exact ⟨d, ⟨o1, o2⟩, ⟨x1, x2⟩, r1, r2⟩
/-- Of calendars that may be, with few rules and days, a union may be just if it has a day of the week that isn't off. -/
theorem un_may {a b : Ca} (ha : a.May) (hb : b.May) (h1 : a.nr ≤ 50) (h2 : b.nr ≤ 50) (h3 : a.nd ≤ 500) (h4 : b.nd ≤ 500) : (a.un b).May ↔ ∃ i, i < 7 ∧ (a.o i || b.o i) = false := by
  obtain ⟨_, _, _, a4, a5, a6⟩ := ha
  obtain ⟨_, _, _, b4, b5, b6⟩ := hb
  have l := len_mg (dl a.X a.nd) (dl b.X b.nd)
  rw [dl_len, dl_len] at l
  constructor
  · rintro ⟨h, _⟩
    exact h
  · intro h
    refine ⟨h, ?_, ?_, (un_rules a b Ru.May).2 ⟨a4, b4⟩, fun j hj => ?_, ld_rise (rise_mg _ _ (dl_rise a6) (dl_rise b6))⟩
    · show a.nr + b.nr ≤ 100; omega
    · show (mg (dl a.X a.nd) (dl b.X b.nd)).length ≤ 1000; omega
    · have m := ld_mem (l := mg (dl a.X a.nd) (dl b.X b.nd)) hj
      rw [mem_mg, dl_mem, dl_mem] at m
      show 1 ≤ ld _ j ∧ ld _ j ≤ 3652059
      rcases m with ⟨i, hi, e⟩ | ⟨i, hi, e⟩
      · rw [← e]; exact a5 i hi
      · rw [← e]; exact b5 i hi
end Go.Proofs.YtkbhicdcjfpbaaaDoor
