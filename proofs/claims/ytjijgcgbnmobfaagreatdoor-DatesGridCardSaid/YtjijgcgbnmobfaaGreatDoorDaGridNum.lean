/- Layer 16 in plain numbers: a grid rises, holds the loan, and holds each of its days but the ends. No program in this text. -/
import Derived.Test.YtjijgcgbnmobfaaGreatDoorDaSeq
namespace Go.Proofs.YtjijgcgbnmobfaaGreatDoor
set_option linter.unusedVariables false

theorem Tm.Walk.past {t : Tm} {X E : Nat → Int} {m : Nat} (h : t.Walk X E m) (e : E m = 0) : if t.bk = true then X m ≤ t.st else t.en ≤ X m := by
  have l := h.last e
  have one := h.one
  cases hb : t.bk
  · have u := h.up hb 0 m (by omega) (Nat.le_refl _) e
    rw [h.x0, show t.an = t.st by simp [Tm.an, hb]] at u
    simp
    omega
  · have u := h.down hb 0 m (by omega) (Nat.le_refl _) e
    rw [h.x0, show t.an = t.en by simp [Tm.an, hb]] at u
    simp
    omega
/-- In the years 2 to 9998 the step beyond the loan is a day. -/
theorem Tm.Walk.is_day {t : Tm} {X E : Nat → Int} {m : Nat} (h : t.Walk X E m) (hf : Mo t.ms) (h1 : 366 ≤ t.st) (h2 : t.en ≤ 3651000) (ho : t.st < t.en) : E m = 0 := by
  rcases h.code m with e | e
  · exact e
  exfalso
  have one := h.one
  have mb := mo_bd hf
  obtain ⟨p, rfl⟩ : ∃ p, m = p + 1 := ⟨m - 1, by omega⟩
  have d0 := h.day 0 (by omega) h.e0
  rw [h.x0] at d0
  have xp : E p = 0 ∧ t.st ≤ X p ∧ X p ≤ t.en := by
    rcases Nat.eq_zero_or_pos p with z | z
    · subst z
      refine ⟨h.e0, ?_⟩
      rw [h.x0]
      unfold Tm.an
      split <;> constructor <;> omega
    · have := h.mid p z (by omega)
      exact ⟨this.1, by omega, by omega⟩
  have a := h.mv p
  have b := h.mv (p + 1)
  rw [xp.1] at a
  rw [e] at b
  rcases a with ⟨y, mo, d, Y, M, hy, hn, b1, b2, b3, b4, hk, hr, -⟩ | ⟨-, -, h3⟩ | ⟨-, -, h3⟩
  · rcases b with ⟨_, _, _, _, _, _, _, _, _, _, _, _, _, h0⟩ | ⟨⟨y', m', d', hy', hn', hk'⟩, -, -⟩ | ⟨hout, -, -⟩
    · exact absurd h0 (by decide)
    · obtain ⟨rfl, rfl, rfl⟩ := nb_inj y mo d y' m' d' hy hy' (hn.trans hn'.symm)
      have hD := dm_may t.eo y mo d Y M hy b1 b2 b3 b4
      have y2 : 2 ≤ Y := by
        rcases (show Y < 2 ∨ 2 ≤ Y by omega) with g | g
        · have := nb_lt Y M _ 2 1 1 hD ⟨by decide, by decide, by decide, by decide, by decide, by decide +kernel⟩ (Or.inl g)
          rw [hr, show nb 2 1 1 = 366 by decide +kernel] at this
          omega
        · exact g
      have y3 : Y ≤ 9998 := by
        rcases (show 9998 < Y ∨ Y ≤ 9998 by omega) with g | g
        · have := nb_lt 9998 12 31 Y M _ ⟨by decide, by decide, by decide, by decide, by decide, by decide +kernel⟩ hD (Or.inl g)
          rw [hr, show nb 9998 12 31 = 3651694 by decide +kernel] at this
          omega
        · exact g
      have ab : -12 ≤ t.ap ∧ t.ap ≤ 12 := by unfold Tm.ap; split <;> omega
      rw [show ((p + 1 : Nat) : Int) = (p : Int) + 1 by omega, Int.add_mul, Int.one_mul] at hk'
      omega
    · omega
  · exact absurd h3 (by decide)
  · exact absurd h3 (by decide)
theorem ld_rev {X : Nat → Int} {n j : Nat} (h : j < n) : ld (dl X n).reverse j = X (n - 1 - j) := by
  unfold ld
  rw [List.getD_eq_getElem?_getD, List.getElem?_reverse (by rw [dl_len]; exact h), dl_len, dl_at (by omega)]
  rfl
/-- A grid of m + 1 steps, and the loan's days: the day i, but for the ends, is the step i + c. -/
structure GridIs (st en : Int) (bk : Bool) (G Y : Nat → Int) (m q c : Nat) : Prop where
  lo : G 0 ≤ st
  hi : en ≤ G m
  rise : ∀ i, i < m → G i < G (i + 1)
  ix : ∀ i, 1 ≤ i → i ≤ q → Y i = G (i + c)
  fit : q + c ≤ m
  an : if bk = true then G m = en else G 0 = st
theorem GridIs.mono {st en : Int} {bk : Bool} {G Y : Nat → Int} {m q c : Nat} (h : GridIs st en bk G Y m q c) (i : Nat) : ∀ j, i + j + 1 ≤ m → G i < G (i + j + 1) := by
  intro j
  induction j with
  | zero => intro hj; exact h.rise i (by omega)
  | succ j ih => intro hj; have a := ih (by omega); have b := h.rise (i + j + 1) (by omega); exact Int.lt_trans a b
theorem GridIs.lt {st en : Int} {bk : Bool} {G Y : Nat → Int} {m q c : Nat} (h : GridIs st en bk G Y m q c) (i j : Nat) (hij : i < j) (hj : j ≤ m) : G i < G j := by
  have := h.mono i (j - i - 1) (by omega)
  rwa [show i + (j - i - 1) + 1 = j by omega] at this
theorem Tm.Walk.grid_is {t : Tm} {X E : Nat → Int} {m : Nat} (h : t.Walk X E m) (e : E m = 0) (ho : t.st < t.en) (q : Nat) (hq : q ≤ m - 1) :
    ∃ c, GridIs t.st t.en t.bk (ld (t.grid X (m + 1))) (t.dd X q) m q c := by
  have one := h.one
  have p := h.past e
  have x0 := h.x0
  have e0 : ∀ k, k ≤ m → E k = 0 := fun k hk => by
    rcases Nat.eq_zero_or_pos k with z | z
    · rw [z]; exact h.e0
    · rcases Nat.lt_or_ge k m with g | g
      · exact (h.mid k z g).1
      · rw [show k = m by omega]; exact e
  cases hb : t.bk
  · have G : ∀ i, i < m + 1 → ld (t.grid X (m + 1)) i = X i := fun i hi => by unfold Tm.grid; rw [if_neg (by rw [hb]; decide), ld_dl hi]
    rw [hb, if_neg (by decide)] at p
    rw [show t.an = t.st by simp [Tm.an, hb]] at x0
    refine ⟨0, ?_, ?_, fun i hi => ?_, fun i h1 h2 => ?_, by omega, ?_⟩
    · rw [G 0 (by omega), x0]; exact Int.le_refl _
    · rw [G m (by omega)]; exact p
    · rw [G i (by omega), G (i + 1) (by omega)]; exact h.up hb i (i + 1) (by omega) (by omega) (e0 _ (by omega))
    · rw [G (i + 0) (by omega)]; unfold Tm.dd; rw [if_neg (by rw [hb]; decide), if_pos h2]; rfl
    · rw [if_neg (by decide), G 0 (by omega), x0]
  · have G : ∀ i, i < m + 1 → ld (t.grid X (m + 1)) i = X (m - i) := fun i hi => by unfold Tm.grid; rw [if_pos hb, ld_rev hi, show m + 1 - 1 - i = m - i by omega]
    rw [hb, if_pos rfl] at p
    rw [show t.an = t.en by simp [Tm.an, hb]] at x0
    refine ⟨m - 1 - q, ?_, ?_, fun i hi => ?_, fun i h1 h2 => ?_, by omega, ?_⟩
    · rw [G 0 (by omega)]; exact p
    · rw [G m (by omega), Nat.sub_self, x0]; exact Int.le_refl _
    · rw [G i (by omega), G (i + 1) (by omega)]; exact h.down hb (m - (i + 1)) (m - i) (by omega) (by omega) (e0 _ (by omega))
    · rw [G _ (by omega)]; unfold Tm.dd; rw [if_pos hb, if_neg (by omega), show m - (i + (m - 1 - q)) = q + 1 - i by omega]
    · rw [if_pos rfl, G m (by omega), Nat.sub_self, x0]
end Go.Proofs.YtjijgcgbnmobfaaGreatDoor
