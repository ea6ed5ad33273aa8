/- Layer 14 in plain numbers: the next day of business, the last one, days rolled by each way; the ways' names. No program in this text. -/
import Derived.Test.YtkbhicdcjfpbaaaDoorCaNum
namespace Go.Proofs.YtkbhicdcjfpbaaaDoor
set_option linter.unusedVariables false
set_option linter.unusedSimpArgs false

/-- What a search tells, by steps of s (1 or -1) from n on: the day and its code. -/
def StepIs (c : Ca) (s n v e : Int) : Prop :=
  (¬ dy n ∧ v = 0 ∧ e = 3) ∨ (dy n ∧ ∃ k : Nat, k ≤ 60 ∧ v = n + s * k ∧ c.Is v ∧ (∀ l : Nat, l < k → ¬ c.Is (n + s * l)) ∧ e = 0) ∨
  (dy n ∧ (∀ l : Nat, l ≤ 60 → ¬ c.Is (n + s * l)) ∧ v = 0 ∧ ((dy (n + s * 60) ∧ e = 8) ∨ (¬ dy (n + s * 60) ∧ e = 3)))
theorem least {P : Nat → Prop} : ∀ k : Nat, P k → ∃ j, j ≤ k ∧ P j ∧ ∀ l, l < j → ¬ P l := by
  intro k
  induction k using Nat.strongRecOn with
  | ind k ih =>
    intro h
    by_cases g : ∃ l, l < k ∧ P l
    · obtain ⟨l, hl, pl⟩ := g
      obtain ⟨j, j1, j2, j3⟩ := ih l hl pl
      exact ⟨j, by omega, j2, j3⟩
    · exact ⟨k, Nat.le_refl _, h, fun l hl p => g ⟨l, hl, p⟩⟩
theorem step_is (c : Ca) (s n : Int) : ∃ v e, StepIs c s n v e := by
  by_cases hn : dy n
  · by_cases h : ∃ k : Nat, k ≤ 60 ∧ c.Is (n + s * k)
    · obtain ⟨k, h1, h2⟩ := h
      obtain ⟨j, j1, j2, j3⟩ := least (P := fun k : Nat => c.Is (n + s * k)) k h2
      exact ⟨_, 0, Or.inr (Or.inl ⟨hn, j, by omega, rfl, j2, j3, rfl⟩)⟩
    · have g : ∀ l : Nat, l ≤ 60 → ¬ c.Is (n + s * l) := fun l hl hi => h ⟨l, hl, hi⟩
      by_cases d : dy (n + s * 60)
      · exact ⟨0, 8, Or.inr (Or.inr ⟨hn, g, rfl, Or.inl ⟨d, rfl⟩⟩)⟩
      · exact ⟨0, 3, Or.inr (Or.inr ⟨hn, g, rfl, Or.inr ⟨d, rfl⟩⟩)⟩
  · exact ⟨0, 3, Or.inl ⟨hn, rfl, rfl⟩⟩
/-- A search that is told finds a day of business; one that isn't tells 0. -/
theorem StepIs.zero {c : Ca} {s n v e : Int} (h : StepIs c s n v e) (he : e ≠ 0) : v = 0 := by
  rcases h with ⟨_, h, _⟩ | ⟨_, k, _, _, _, _, h⟩ | ⟨_, _, h, _⟩
  · exact h
  · exact absurd h he
  · exact h
theorem StepIs.good {c : Ca} {s n v e : Int} (h : StepIs c s n v e) (he : e = 0) : dy n ∧ c.Is v ∧ ∃ k : Nat, k ≤ 60 ∧ v = n + s * k ∧ ∀ l : Nat, l < k → ¬ c.Is (n + s * l) := by
  rcases h with ⟨_, _, h⟩ | ⟨hn, k, k1, k2, k3, k4, h⟩ | ⟨_, _, _, ⟨_, h⟩ | ⟨_, h⟩⟩
  · omega
  · exact ⟨hn, k3, k, k1, k2, k4⟩
  · omega
  · omega
theorem StepIs.bad {c : Ca} {s n v e : Int} (h : StepIs c s n v e) (he : e ≠ 0) (hn : dy n) : ∀ l : Nat, l ≤ 60 → ¬ c.Is (n + s * l) := by
  rcases h with ⟨h, _, _⟩ | ⟨_, k, _, _, _, _, h⟩ | ⟨_, h, _, _⟩
  · exact absurd hn h
  · exact absurd h he
  · exact h
/-- A day of business stays; what is found is what is found. -/
theorem StepIs.stay {c : Ca} {s n : Int} (h : c.Is n) : StepIs c s n n 0 :=
  Or.inr (Or.inl ⟨h.1, 0, by omega, by rw [show ((0 : Nat) : Int) = 0 from rfl, Int.mul_zero, Int.add_zero], h, fun l hl => absurd hl (Nat.not_lt_zero _), rfl⟩)
theorem StepIs.same {c : Ca} {s n v e v' e' : Int} (h : StepIs c s n v e) (g : StepIs c s n v' e') : v = v' ∧ e = e' := by
  rcases h with ⟨h0, h1, h2⟩ | ⟨h0, k, h1, h2, h3, h4, h5⟩ | ⟨h0, h1, h2, h3⟩ <;> rcases g with ⟨g0, g1, g2⟩ | ⟨g0, j, g1, g2, g3, g4, g5⟩ | ⟨g0, g1, g2, g3⟩
  · exact ⟨h1.trans g1.symm, h2.trans g2.symm⟩
  · exact absurd g0 h0
  · exact absurd g0 h0
  · exact absurd h0 g0
  · have e : k = j := by
      rcases Nat.lt_trichotomy k j with l | l | l
      · rw [h2] at h3; exact absurd h3 (g4 k l)
      · exact l
      · rw [g2] at g3; exact absurd g3 (h4 j l)
    subst e
    exact ⟨h2.trans g2.symm, h5.trans g5.symm⟩
  · rw [h2] at h3; exact absurd h3 (g1 k h1)
  · exact absurd h0 g0
  · rw [g2] at g3; exact absurd g3 (h1 j g1)
  · refine ⟨h2.trans g2.symm, ?_⟩
    rcases h3 with ⟨a, b⟩ | ⟨a, b⟩ <;> rcases g3 with ⟨x, y⟩ | ⟨x, y⟩
    · exact b.trans y.symm
    · exact absurd a x
    · exact absurd x a
    · exact b.trans y.symm
/-- Two days of one month. -/
def sameM (n a : Int) : Prop := ∃ y m d d', (may y m d ∧ nb y m d = n) ∧ may y m d' ∧ nb y m d' = a
theorem same_iff {n a y m d y' m' d' : Int} (h : may y m d) (hn : nb y m d = n) (g : may y' m' d') (ga : nb y' m' d' = a) : sameM n a ↔ y' = y ∧ m' = m := by
  constructor
  · rintro ⟨u, v, x, x', ⟨h1, h2⟩, h3, h4⟩
    obtain ⟨rfl, rfl, _⟩ := nb_inj y m d u v x h h1 (hn.trans h2.symm)
    obtain ⟨rfl, rfl, _⟩ := nb_inj _ _ _ _ _ _ g h3 (ga.trans h4.symm)
    exact ⟨rfl, rfl⟩
  · rintro ⟨rfl, rfl⟩
    exact ⟨_, _, d, d', ⟨h, hn⟩, g, ga⟩
theorem same_self {n : Int} (h : dy n) : sameM n n := by
  obtain ⟨y, m, d, h1, h2⟩ := day_of n h.1 h.2
  exact ⟨y, m, d, d, ⟨h1, h2⟩, h1, h2⟩
/-- A way that stays in the month, if it may: s first, t if that leads into another month. -/
def ModIs (c : Ca) (s t n v e : Int) : Prop := ∃ a f, StepIs c s n a f ∧ (((f ≠ 0 ∨ sameM n a) ∧ v = a ∧ e = f) ∨ ((f = 0 ∧ ¬ sameM n a) ∧ StepIs c t n v e))
theorem mod_is (c : Ca) (s t n : Int) : ∃ v e, ModIs c s t n v e := by
  obtain ⟨a, f, h⟩ := step_is c s n
  obtain ⟨v, e, g⟩ := step_is c t n
  by_cases hf : f = 0
  · by_cases hs : sameM n a
    · exact ⟨a, f, a, f, h, Or.inl ⟨Or.inr hs, rfl, rfl⟩⟩
    · exact ⟨v, e, a, f, h, Or.inr ⟨⟨hf, hs⟩, g⟩⟩
  · exact ⟨a, f, a, f, h, Or.inl ⟨Or.inl hf, rfl, rfl⟩⟩
/-- What is rolled by each way, and its code. -/
def ToIs (c : Ca) (n k v e : Int) : Prop :=
  (k = 0 ∧ ((dy n ∧ v = n ∧ e = 0) ∨ (¬ dy n ∧ v = 0 ∧ e = 3))) ∨ (k = 1 ∧ StepIs c 1 n v e) ∨ (k = 2 ∧ ModIs c 1 (-1) n v e) ∨ (k = 3 ∧ StepIs c (-1) n v e) ∨ (k = 4 ∧ ModIs c (-1) 1 n v e) ∨ ((k < 0 ∨ 4 < k) ∧ v = 0 ∧ e = 1)
theorem to_is (c : Ca) (n k : Int) : ∃ v e, ToIs c n k v e := by
  by_cases h0 : k = 0
  · by_cases hd : dy n
    · exact ⟨n, 0, Or.inl ⟨h0, Or.inl ⟨hd, rfl, rfl⟩⟩⟩
    · exact ⟨0, 3, Or.inl ⟨h0, Or.inr ⟨hd, rfl, rfl⟩⟩⟩
  by_cases h1 : k = 1
  · obtain ⟨v, e, h⟩ := step_is c 1 n
    exact ⟨v, e, Or.inr (Or.inl ⟨h1, h⟩)⟩
  by_cases h2 : k = 2
  · obtain ⟨v, e, h⟩ := mod_is c 1 (-1) n
    exact ⟨v, e, Or.inr (Or.inr (Or.inl ⟨h2, h⟩))⟩
  by_cases h3 : k = 3
  · obtain ⟨v, e, h⟩ := step_is c (-1) n
    exact ⟨v, e, Or.inr (Or.inr (Or.inr (Or.inl ⟨h3, h⟩)))⟩
  by_cases h4 : k = 4
  · obtain ⟨v, e, h⟩ := mod_is c (-1) 1 n
    exact ⟨v, e, Or.inr (Or.inr (Or.inr (Or.inr (Or.inl ⟨h4, h⟩))))⟩
  exact ⟨0, 1, Or.inr (Or.inr (Or.inr (Or.inr (Or.inr ⟨by omega, rfl, rfl⟩))))⟩
theorem ModIs.good {c : Ca} {s t n v e : Int} (h : ModIs c s t n v e) : (e = 0 → c.Is v) ∧ (e ≠ 0 → v = 0) := by
  obtain ⟨a, f, h1, ⟨_, rfl, rfl⟩ | ⟨_, h2⟩⟩ := h
  · exact ⟨fun g => (h1.good g).2.1, fun g => h1.zero g⟩
  · exact ⟨fun g => (h2.good g).2.1, fun g => h2.zero g⟩
theorem ModIs.stay {c : Ca} {s t n : Int} (h : c.Is n) : ModIs c s t n n 0 := ⟨n, 0, .stay h, Or.inl ⟨Or.inr (same_self h.1), rfl, rfl⟩⟩
theorem ModIs.same {c : Ca} {s t n v e v' e' : Int} (h : ModIs c s t n v e) (g : ModIs c s t n v' e') : v = v' ∧ e = e' := by
  obtain ⟨a, f, h1, h2⟩ := h
  obtain ⟨a', f', g1, g2⟩ := g
  obtain ⟨rfl, rfl⟩ := h1.same g1
  rcases h2 with ⟨x, rfl, rfl⟩ | ⟨x, h2⟩ <;> rcases g2 with ⟨y, rfl, rfl⟩ | ⟨y, g2⟩
  · exact ⟨rfl, rfl⟩
  · rcases x with x | x
    · exact absurd y.1 x
    · exact absurd x y.2
  · rcases y with y | y
    · exact absurd x.1 y
    · exact absurd y x.2
  · exact h2.same g2
/-- A day of business stays by each way; what is rolled, but by none, is one; what isn't told is 0. -/
theorem ToIs.stay {c : Ca} {n k : Int} (h : c.Is n) (k0 : 0 ≤ k) (k4 : k ≤ 4) : ToIs c n k n 0 := by
  rcases (show k = 0 ∨ k = 1 ∨ k = 2 ∨ k = 3 ∨ k = 4 by omega) with rfl | rfl | rfl | rfl | rfl
  · exact Or.inl ⟨rfl, Or.inl ⟨h.1, rfl, rfl⟩⟩
  · exact Or.inr (Or.inl ⟨rfl, .stay h⟩)
  · exact Or.inr (Or.inr (Or.inl ⟨rfl, .stay h⟩))
  · exact Or.inr (Or.inr (Or.inr (Or.inl ⟨rfl, .stay h⟩)))
  · exact Or.inr (Or.inr (Or.inr (Or.inr (Or.inl ⟨rfl, .stay h⟩))))
theorem ToIs.same {c : Ca} {n k v e v' e' : Int} (h : ToIs c n k v e) (g : ToIs c n k v' e') : v = v' ∧ e = e' := by
  rcases h with ⟨h0, h1⟩ | ⟨h0, h1⟩ | ⟨h0, h1⟩ | ⟨h0, h1⟩ | ⟨h0, h1⟩ | ⟨h0, h1, h2⟩ <;> rcases g with ⟨g0, g1⟩ | ⟨g0, g1⟩ | ⟨g0, g1⟩ | ⟨g0, g1⟩ | ⟨g0, g1⟩ | ⟨g0, g1, g2⟩ <;> first | (exfalso; omega) | exact h1.same g1 | skip
  · rcases h1 with ⟨a, b, c⟩ | ⟨a, b, c⟩ <;> rcases g1 with ⟨x, y, z⟩ | ⟨x, y, z⟩
    · exact ⟨b.trans y.symm, c.trans z.symm⟩
    · exact absurd a x
    · exact absurd x a
    · exact ⟨b.trans y.symm, c.trans z.symm⟩
  · exact ⟨h1.trans g1.symm, h2.trans g2.symm⟩
theorem ToIs.zero {c : Ca} {n k v e : Int} (h : ToIs c n k v e) (he : e ≠ 0) : v = 0 := by
  rcases h with ⟨_, ⟨_, _, h⟩ | ⟨_, h, _⟩⟩ | ⟨_, h⟩ | ⟨_, h⟩ | ⟨_, h⟩ | ⟨_, h⟩ | ⟨_, h, _⟩
  · exact absurd h he
  · exact h
  · exact h.zero he
  · exact h.good.2 he
  · exact h.zero he
  · exact h.good.2 he
  · exact h
/-- What is rolled once is rolled twice the same. -/
theorem ToIs.twice {c : Ca} {n k v e : Int} (h : ToIs c n k v e) (he : e = 0) (k0 : 0 ≤ k) (k4 : k ≤ 4) : ToIs c v k v 0 := by
  rcases h with ⟨h0, ⟨a, b, _⟩ | ⟨_, _, h⟩⟩ | ⟨_, h⟩ | ⟨_, h⟩ | ⟨_, h⟩ | ⟨_, h⟩ | ⟨_, _, h⟩
  · exact Or.inl ⟨h0, Or.inl ⟨b ▸ a, rfl, rfl⟩⟩
  · omega
  · exact .stay (h.good he).2.1 k0 k4
  · exact .stay (h.good.1 he) k0 k4
  · exact .stay (h.good he).2.1 k0 k4
  · exact .stay (h.good.1 he) k0 k4
  · omega
/-- What comes of rolling is what one of both searches tells, or the day itself. -/
theorem ToIs.one {c : Ca} {n k v e a ea b eb : Int} (h : ToIs c n k v e) (he : e = 0) (ha : StepIs c 1 n a ea) (hb : StepIs c (-1) n b eb) : (k = 0 ∧ v = n) ∨ (v = a ∧ ea = 0) ∨ (v = b ∧ eb = 0) := by
  rcases h with ⟨h0, ⟨_, b, _⟩ | ⟨_, _, h⟩⟩ | ⟨_, h⟩ | ⟨_, x, f, h, ⟨_, rfl, rfl⟩ | ⟨_, g⟩⟩ | ⟨_, h⟩ | ⟨_, x, f, h, ⟨_, rfl, rfl⟩ | ⟨_, g⟩⟩ | ⟨_, _, h⟩
  · exact Or.inl ⟨h0, b⟩
  · omega
  · obtain ⟨rfl, rfl⟩ := h.same ha; exact Or.inr (Or.inl ⟨rfl, he⟩)
  · obtain ⟨rfl, rfl⟩ := h.same ha; exact Or.inr (Or.inl ⟨rfl, he⟩)
  · obtain ⟨rfl, rfl⟩ := g.same hb; exact Or.inr (Or.inr ⟨rfl, he⟩)
  · obtain ⟨rfl, rfl⟩ := h.same hb; exact Or.inr (Or.inr ⟨rfl, he⟩)
  · obtain ⟨rfl, rfl⟩ := h.same hb; exact Or.inr (Or.inr ⟨rfl, he⟩)
  · obtain ⟨rfl, rfl⟩ := g.same ha; exact Or.inr (Or.inl ⟨rfl, he⟩)
  · omega
theorem next_up {c : Ca} {n m a b : Int} (h : StepIs c 1 n a 0) (g : StepIs c 1 m b 0) (hm : n ≤ m) : a ≤ b := by
  obtain ⟨_, _, k, k1, rfl, k3⟩ := h.good rfl
  obtain ⟨_, hb, j, j1, e, j3⟩ := g.good rfl
  rcases Int.lt_or_le b (n + 1 * k) with l | l
  · have := k3 (b - n).toNat (by omega)
    rw [show n + 1 * ((b - n).toNat : Int) = b by omega] at this
    exact absurd hb this
  · exact l
theorem prev_up {c : Ca} {n m a b : Int} (h : StepIs c (-1) n a 0) (g : StepIs c (-1) m b 0) (hm : n ≤ m) : a ≤ b := by
  obtain ⟨_, ha, k, k1, e, k3⟩ := h.good rfl
  obtain ⟨_, _, j, j1, rfl, j3⟩ := g.good rfl
  rcases Int.lt_or_le (m + -1 * j) a with l | l
  · have := j3 (m - a).toNat (by omega)
    rw [show m + -1 * ((m - a).toNat : Int) = a by omega] at this
    exact absurd ha this
  · exact l
/-- On from a day that isn't one of business is on from the day behind; back likewise. -/
theorem twin_next {c : Ca} {n a e b f : Int} (h : StepIs c 1 n a e) (g : StepIs c 1 (n + 1) b f) (hn : ¬ c.Is n) (d : dy n) (d1 : dy (n + 1)) : (e = 0 → f = 0 ∧ a = b) ∧ (f = 0 → (e = 0 ∧ a = b) ∨ (e ≠ 0 ∧ b = n + 61)) := by
  constructor
  · intro he
    obtain ⟨_, ha, k, k1, rfl, k3⟩ := h.good he
    by_cases k0 : k = 0
    · subst k0
      rw [show n + 1 * ((0 : Nat) : Int) = n by omega] at ha
      exact absurd ha hn
    · have := g.same (v' := n + 1 * k) (e' := 0) (Or.inr (Or.inl ⟨d1, k - 1, by omega, by omega, ha, fun l hl => by
        have := k3 (l + 1) (by omega)
        rwa [show n + 1 * ((l + 1 : Nat) : Int) = n + 1 + 1 * (l : Int) by omega] at this, rfl⟩))
      exact ⟨this.2, this.1.symm⟩
  · intro hf
    obtain ⟨_, hb, k, k1, rfl, k3⟩ := g.good hf
    have no : ∀ l : Nat, l < k + 1 → ¬ c.Is (n + 1 * l) := fun l hl => by
      by_cases l0 : l = 0
      · subst l0
        rwa [show n + 1 * ((0 : Nat) : Int) = n by omega]
      · have := k3 (l - 1) (by omega)
        rwa [show n + 1 + 1 * ((l - 1 : Nat) : Int) = n + 1 * (l : Int) by omega] at this
    by_cases k6 : k + 1 ≤ 60
    · have := h.same (v' := n + 1 + 1 * k) (e' := 0) (Or.inr (Or.inl ⟨d, k + 1, k6, by omega, hb, no, rfl⟩))
      exact Or.inl ⟨this.2, this.1⟩
    · refine Or.inr ⟨fun he => ?_, by omega⟩
      obtain ⟨_, ha, j, j1, rfl, j3⟩ := h.good he
      exact no j (by omega) ha
theorem twin_prev {c : Ca} {n a e b f : Int} (h : StepIs c (-1) n a e) (g : StepIs c (-1) (n - 1) b f) (hn : ¬ c.Is n) (d : dy n) (d1 : dy (n - 1)) : (e = 0 → f = 0 ∧ a = b) ∧ (f = 0 → (e = 0 ∧ a = b) ∨ (e ≠ 0 ∧ b = n - 61)) := by
  constructor
  · intro he
    obtain ⟨_, ha, k, k1, rfl, k3⟩ := h.good he
    by_cases k0 : k = 0
    · subst k0
      rw [show n + -1 * ((0 : Nat) : Int) = n by omega] at ha
      exact absurd ha hn
    · have := g.same (v' := n + -1 * k) (e' := 0) (Or.inr (Or.inl ⟨d1, k - 1, by omega, by omega, ha, fun l hl => by
        have := k3 (l + 1) (by omega)
        rwa [show n + -1 * ((l + 1 : Nat) : Int) = n - 1 + -1 * (l : Int) by omega] at this, rfl⟩))
      exact ⟨this.2, this.1.symm⟩
  · intro hf
    obtain ⟨_, hb, k, k1, rfl, k3⟩ := g.good hf
    have no : ∀ l : Nat, l < k + 1 → ¬ c.Is (n + -1 * l) := fun l hl => by
      by_cases l0 : l = 0
      · subst l0
        rwa [show n + -1 * ((0 : Nat) : Int) = n by omega]
      · have := k3 (l - 1) (by omega)
        rwa [show n - 1 + -1 * ((l - 1 : Nat) : Int) = n + -1 * (l : Int) by omega] at this
    by_cases k6 : k + 1 ≤ 60
    · have := h.same (v' := n - 1 + -1 * k) (e' := 0) (Or.inr (Or.inl ⟨d, k + 1, k6, by omega, hb, no, rfl⟩))
      exact Or.inl ⟨this.2, this.1⟩
    · refine Or.inr ⟨fun he => ?_, by omega⟩
      obtain ⟨_, ha, j, j1, rfl, j3⟩ := h.good he
      exact no j (by omega) ha
theorem ModIs.code {c : Ca} {s t n v e a f : Int} (h : ModIs c s t n v e) (g : StepIs c s n a f) (hf : f ≠ 0) : e = f := by
  obtain ⟨x, y, h1, ⟨_, rfl, rfl⟩ | ⟨h2, _⟩⟩ := h
  · exact (h1.same g).2
  · obtain ⟨rfl, rfl⟩ := h1.same g
    exact absurd h2.1 hf
/-- Where both searches are told. -/
theorem ModIs.both {c : Ca} {s t n v e a b : Int} (h : ModIs c s t n v e) (g : StepIs c s n a 0) (k : StepIs c t n b 0) : e = 0 ∧ (sameM n a → v = a) ∧ (¬ sameM n a → v = b) := by
  obtain ⟨x, y, h1, ⟨h2, rfl, rfl⟩ | ⟨h2, h3⟩⟩ := h
  · obtain ⟨rfl, rfl⟩ := h1.same g
    rcases h2 with h2 | h2
    · exact absurd rfl h2
    · exact ⟨rfl, fun _ => rfl, fun z => absurd h2 z⟩
  · obtain ⟨rfl, _⟩ := h1.same g
    obtain ⟨rfl, rfl⟩ := h3.same k
    exact ⟨rfl, fun z => absurd z h2.2, fun _ => rfl⟩
/-- A calendar by which a day is one of business just by its day of the week. -/
theorem open_next {c : Ca} {n b f : Int} {d : Nat} (hd : d < 7) (hc : ∀ m, c.Is m ↔ dy m ∧ wk m = d) (h : StepIs c 1 n b f) (n1 : 7 ≤ n) (n2 : n ≤ 3652052) : f = 0 ∧ 0 ≤ b - n ∧ b - n ≤ 6 ∧ wk b = d := by
  obtain ⟨k, hk⟩ : ∃ k : Nat, k ≤ 6 ∧ wk (n + 1 * k) = d := ⟨((d - wk n) % 7).toNat, by unfold wk; omega, by unfold wk; omega⟩
  have hi : c.Is (n + 1 * k) := (hc _).2 ⟨by unfold dy; omega, hk.2⟩
  have dn : dy n := by unfold dy; omega
  by_cases hf : f = 0
  · obtain ⟨_, hb, j, j1, rfl, j3⟩ := h.good hf
    refine ⟨hf, by omega, ?_, ((hc _).1 hb).2⟩
    rcases Nat.lt_or_ge k j with l | l
    · exact absurd hi (j3 k l)
    · omega
  · exact absurd hi (h.bad hf dn k (by omega))
theorem open_prev {c : Ca} {n b f : Int} {d : Nat} (hd : d < 7) (hc : ∀ m, c.Is m ↔ dy m ∧ wk m = d) (h : StepIs c (-1) n b f) (n1 : 7 ≤ n) (n2 : n ≤ 3652052) : f = 0 ∧ 0 ≤ n - b ∧ n - b ≤ 6 ∧ wk b = d := by
  obtain ⟨k, hk⟩ : ∃ k : Nat, k ≤ 6 ∧ wk (n + -1 * k) = d := ⟨((wk n - d) % 7).toNat, by unfold wk; omega, by unfold wk; omega⟩
  have hi : c.Is (n + -1 * k) := (hc _).2 ⟨by unfold dy; omega, hk.2⟩
  have dn : dy n := by unfold dy; omega
  by_cases hf : f = 0
  · obtain ⟨_, hb, j, j1, rfl, j3⟩ := h.good hf
    refine ⟨hf, by omega, ?_, ((hc _).1 hb).2⟩
    rcases Nat.lt_or_ge k j with l | l
    · exact absurd hi (j3 k l)
    · omega
  · exact absurd hi (h.bad hf dn k (by omega))
theorem open_to {c : Ca} {n k v e a ea b eb : Int} (h : ToIs c n k v e) (ha : StepIs c 1 n a ea) (hb : StepIs c (-1) n b eb) (a0 : ea = 0) (b0 : eb = 0) (hn : dy n) (k0 : 0 ≤ k) (k4 : k ≤ 4) : e = 0 := by
  subst a0 b0
  rcases h with ⟨h0, ⟨_, _, h⟩ | ⟨h, _, _⟩⟩ | ⟨_, h⟩ | ⟨_, h⟩ | ⟨_, h⟩ | ⟨_, h⟩ | ⟨_, _, h⟩
  · exact h
  · exact absurd hn h
  · exact (h.same ha).2
  · exact (h.both ha hb).1
  · exact (h.same hb).2
  · exact (h.both hb ha).1
  · omega
/-- The ways' names, and the way of a name with its code. -/
def rn (k : Int) : ByteArray := if k = 0 then ⟨#[110, 111, 110, 101]⟩ else if k = 1 then ⟨#[102, 111, 108, 108, 111, 119, 105, 110, 103]⟩ else if k = 2 then ⟨#[109, 111, 100, 102, 111, 108, 108, 111, 119, 105, 110, 103]⟩ else if k = 3 then ⟨#[112, 114, 101, 99, 101, 100, 105, 110, 103]⟩ else if k = 4 then ⟨#[109, 111, 100, 112, 114, 101, 99, 101, 100, 105, 110, 103]⟩ else ⟨#[]⟩
def rk (s : ByteArray) : Int × Int := if ((rn 0).toList == s.toList) = true then (0, 0) else if ((rn 1).toList == s.toList) = true then (1, 0) else if ((rn 2).toList == s.toList) = true then (2, 0) else if ((rn 3).toList == s.toList) = true then (3, 0) else if ((rn 4).toList == s.toList) = true then (4, 0) else (0, 10)
theorem rn_out (k : Int) (h : k < 0 ∨ 4 < k) : rn k = ⟨#[]⟩ := by
  unfold rn
  rw [if_neg (by omega), if_neg (by omega), if_neg (by omega), if_neg (by omega), if_neg (by omega)]
theorem of5 (k : Int) (h : 0 ≤ k ∧ k ≤ 4) : k = 0 ∨ k = 1 ∨ k = 2 ∨ k = 3 ∨ k = 4 := by omega
theorem rn_0 : rn 0 = ⟨#[110, 111, 110, 101]⟩ := by simp [rn]
theorem rn_1 : rn 1 = ⟨#[102, 111, 108, 108, 111, 119, 105, 110, 103]⟩ := by simp [rn]
theorem rn_2 : rn 2 = ⟨#[109, 111, 100, 102, 111, 108, 108, 111, 119, 105, 110, 103]⟩ := by simp [rn]
theorem rn_3 : rn 3 = ⟨#[112, 114, 101, 99, 101, 100, 105, 110, 103]⟩ := by simp [rn]
theorem rn_4 : rn 4 = ⟨#[109, 111, 100, 112, 114, 101, 99, 101, 100, 105, 110, 103]⟩ := by simp [rn]
end Go.Proofs.YtkbhicdcjfpbaaaDoor
