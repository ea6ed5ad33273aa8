/- Layer 16 in plain numbers: loans of a whole number of periods, from either end; a day more. No program in this text. -/
import Derived.Test.YtjijgcgbnmobfaaGreatDoorDaSeq
namespace Go.Proofs.YtjijgcgbnmobfaaGreatDoor
set_option linter.unusedVariables false

theorem sx_free (y m d y' m' T : Int) : sx false y m d T = sx false y' m' d T := by unfold sx dm; simp
theorem sx_in {y m d T : Int} (hd : d ≤ 28) (hT : 12 ≤ T ∧ T ≤ 119999) : sx false y m d T = nb (T / 12) (T % 12 + 1) d := by
  have := ln_ge (T / 12) (T % 12 + 1) (by omega) (by omega)
  unfold sx dm
  rw [if_pos hT, if_neg (by simp), Int.min_eq_left (by omega)]
/-- The months of a period, by a number below 6. -/
def msOf (p : Int) : Int := if p = 0 then 1 else if p = 1 then 2 else if p = 2 then 3 else if p = 3 then 4 else if p = 4 then 6 else 12
theorem msOf_mo (p : Int) : Mo (msOf p) := by unfold msOf Mo; repeat (first | split | omega)
variable {n en ms y mo d T : Int} {k : Nat}
/-- A loan from a day of the 28th at most, of k periods. -/
structure Many (n en ms y mo d T : Int) (k : Nat) : Prop where
  hmay : may y mo d
  hnb : nb y mo d = n
  h28 : d ≤ 28
  hT : 12 * y + mo - 1 = T
  hMo : Mo ms
  hone : 1 ≤ k
  htop : k ≤ 100
  hlast : T + (k : Int) * ms ≤ 119999
  hen : sx false y mo d (T + (k : Int) * ms) = en
theorem Many.lo (h : Many n en ms y mo d T k) : 12 ≤ T ∧ T ≤ 119999 := by
  obtain ⟨a1, a2, a3, a4, -, -⟩ := h.hmay
  have := h.hT
  omega
theorem Many.mono (h : Many n en ms y mo d T k) (i j : Nat) (hij : i < j) : (i : Int) * ms + 1 ≤ (j : Int) * ms := by
  have mb := mo_bd h.hMo
  have := Int.mul_lt_mul_of_pos_right (show (i : Int) < j by omega) (show 0 < ms by omega)
  omega
theorem Many.lt (h : Many n en ms y mo d T k) (i j : Nat) (hij : i < j) (hj : T + (j : Int) * ms ≤ 119999) : sx false y mo d (T + (i : Int) * ms) + 28 ≤ sx false y mo d (T + (j : Int) * ms) := by
  have m := h.mono i j hij
  have lo := h.lo
  have i0 : 0 ≤ (i : Int) * ms := Int.mul_nonneg (by omega) (by have := mo_bd h.hMo; omega)
  have := sx_lt (b := false) h.hmay (T := T + (i : Int) * ms) (U := T + (j : Int) * ms) (by omega) (by omega) hj
  omega
theorem Many.x0 (h : Many n en ms y mo d T k) : sx false y mo d (T + ((0 : Nat) : Int) * ms) = n := by
  have := sx_self (b := false) h.hmay
  rw [h.hT, h.hnb] at this
  simpa using this
theorem Many.le (h : Many n en ms y mo d T k) (i : Nat) (hi : i ≤ k) : T + (i : Int) * ms ≤ 119999 := by
  rcases Nat.lt_or_ge i k with g | g
  · have := h.mono i k g; have := h.hlast; omega
  · rw [show i = k by omega]; exact h.hlast
theorem Many.sez (h : Many n en ms y mo d T k) (i : Nat) (hi : i ≤ k) : se (T + (i : Int) * ms) = 0 := by
  have i0 : 0 ≤ (i : Int) * ms := Int.mul_nonneg (by omega) (by have := mo_bd h.hMo; omega)
  have := h.le i hi
  have := h.lo
  exact se_zero.2 ⟨by omega, by omega⟩
theorem Many.days (h : Many n en ms y mo d T k) : (1 ≤ n ∧ n ≤ 3652059) ∧ (1 ≤ en ∧ en ≤ 3652059) ∧ n + 28 ≤ en := by
  have a := h.lt 0 k h.hone h.hlast
  rw [h.x0, h.hen] at a
  have b := nb_bd _ _ _ h.hmay
  rw [h.hnb] at b
  have c := sx_bd (b := false) h.hmay (T := T + (k : Int) * ms) (se_zero.1 (h.sez k (Nat.le_refl _)))
  rw [h.hen] at c
  exact ⟨b, c, a⟩
theorem Many.code (h : Many n en ms y mo d T k) (e : Int) (he : n < e ∧ e ≤ 3652059) (bk lg : Bool) : (Tm.mk 1 0 0 0 n e ms bk lg false 0).code = 0 := by
  have a := h.days
  exact Tm.may (t := Tm.mk 1 0 0 0 n e ms bk lg false 0) ⟨⟨Int.zero_le_ofNat 0, show (0 : Int) ≤ 2 by decide⟩, ⟨Int.zero_le_ofNat 0, show (0 : Int) ≤ 6 by decide⟩, ⟨Int.zero_le_ofNat 0, show (0 : Int) ≤ 4 by decide⟩, h.hMo⟩ ⟨a.1, ⟨show 1 ≤ e by omega, he.2⟩⟩ he.1 ⟨⟨show (1 : Int) ≤ 1 by decide, show (1 : Int) ≤ 1000000000000000 by decide⟩, ⟨show (0 : Int) ≤ 0 by decide, show (0 : Int) ≤ 1000000 by decide⟩⟩ (show (1 : Int) * 0 ≤ 9000000000000000000 by decide)
/-- Told from the first day. -/
theorem Many.fwd (h : Many n en ms y mo d T k) (lg : Bool) : (Tm.mk 1 0 0 0 n en ms false lg false 0).Walk (fun i => sx false y mo d (T + (i : Int) * ms)) (fun i => se (T + (i : Int) * ms)) k := by
  have a := h.days
  refine walk_of16 (Tm.mk 1 0 0 0 n en ms false lg false 0) (h.code en ⟨by omega, a.2.1.2⟩ false lg) y mo d T h.hmay (h.hnb.trans rfl) h.hT k h.hone (by have := h.htop; omega) ?_ ?_
  · intro i h1 h2
    have l := h.lt 0 i h1 (h.le i (by omega))
    rw [h.x0] at l
    have r := h.lt i k h2 h.hlast
    rw [h.hen] at r
    exact ⟨h.sez i (by omega), show n < _ by exact Int.lt_of_lt_of_le (by omega) l, show _ < en by exact Int.lt_of_lt_of_le (Int.lt_add_of_pos_right _ (by decide)) r⟩
  · intro _ g
    have e : sx false y mo d (T + (k : Int) * ms) < en := g.2
    rw [h.hen] at e
    exact Int.lt_irrefl _ e
/-- .. from the last one. -/
theorem Many.back (h : Many n en ms y mo d T k) (lg : Bool) : (Tm.mk 1 0 0 0 n en ms true lg false 0).Walk (fun i => sx false y mo d (T + (k : Int) * ms + (i : Int) * -ms)) (fun i => se (T + (k : Int) * ms + (i : Int) * -ms)) k := by
  have a := h.days
  have hr := se_zero.1 (h.sez k (Nat.le_refl _))
  obtain ⟨U, hU⟩ : ∃ U, T + (k : Int) * ms = U := ⟨_, rfl⟩
  have hen := h.hen
  rw [hU] at hr hen ⊢
  have e2 : nb (U / 12) (U % 12 + 1) d = en := (sx_in h.h28 hr).symm.trans hen
  have key : ∀ i : Nat, i ≤ k → U + (i : Int) * -ms = T + ((k - i : Nat) : Int) * ms := fun i hi => by
    rw [← hU, Int.mul_neg, show ((k - i : Nat) : Int) = (k : Int) - i by omega, Int.sub_mul]
    omega
  have := walk_of16 (Tm.mk 1 0 0 0 n en ms true lg false 0) (h.code en ⟨by omega, a.2.1.2⟩ true lg) (U / 12) (U % 12 + 1) d U (by
    have := ln_ge (U / 12) (U % 12 + 1) (by omega) (by omega)
    have h5 := h.hmay.2.2.2.2.1
    have h6 := h.h28
    exact ⟨by omega, by omega, by omega, by omega, h5, by omega⟩) (e2.trans rfl) (by omega) k h.hone (by have := h.htop; omega) ?_ ?_
  · rw [show (fun i : Nat => sx false y mo d (U + (i : Int) * -ms)) = fun i : Nat => sx false (U / 12) (U % 12 + 1) d (U + (i : Int) * -ms) from funext fun i => sx_free _ _ _ _ _ _]
    exact this
  · intro i h1 h2
    show se (U + (i : Int) * -ms) = 0 ∧ n < sx false (U / 12) (U % 12 + 1) d (U + (i : Int) * -ms) ∧ sx false (U / 12) (U % 12 + 1) d (U + (i : Int) * -ms) < en
    rw [sx_free (U / 12) (U % 12 + 1) d y mo, key i (by omega)]
    have l := h.lt 0 (k - i) (by omega) (h.le _ (by omega))
    rw [h.x0] at l
    have r := h.lt (k - i) k (by omega) h.hlast
    rw [h.hen] at r
    exact ⟨h.sez _ (by omega), by omega, by omega⟩
  · intro _
    show ¬ (n < sx false (U / 12) (U % 12 + 1) d (U + (k : Int) * -ms) ∧ _)
    rw [sx_free (U / 12) (U % 12 + 1) d y mo, key k (Nat.le_refl _), Nat.sub_self, h.x0]
    intro g
    exact Int.lt_irrefl _ g.1
/-- .. with a day more. -/
theorem Many.more (h : Many n en ms y mo d T k) (lg : Bool) (he : en ≤ 3652000) : (Tm.mk 1 0 0 0 n (en + 1) ms false lg false 0).Walk (fun i => sx false y mo d (T + (i : Int) * ms)) (fun i => se (T + (i : Int) * ms)) (k + 1) := by
  have a := h.days
  refine walk_of16 (Tm.mk 1 0 0 0 n (en + 1) ms false lg false 0) (h.code (en + 1) ⟨by omega, by omega⟩ false lg) y mo d T h.hmay (h.hnb.trans rfl) h.hT (k + 1) (by omega) (by have := h.htop; omega) ?_ ?_
  · intro i h1 h2
    have l := h.lt 0 i h1 (h.le i (by omega))
    rw [h.x0] at l
    have r : sx false y mo d (T + (i : Int) * ms) ≤ en := by
      rcases Nat.lt_or_ge i k with g | g
      · have := h.lt i k g h.hlast; rw [h.hen] at this; omega
      · rw [show i = k by omega, h.hen]; exact Int.le_refl _
    exact ⟨h.sez i (by omega), show n < _ by exact Int.lt_of_lt_of_le (by omega) l, show _ < en + 1 by exact Int.lt_add_one_of_le r⟩
  · intro e g
    have r := h.lt k (k + 1) (by omega) (se_zero.1 e).2
    rw [h.hen] at r
    have g2 : sx false y mo d (T + ((k + 1 : Nat) : Int) * ms) < en + 1 := g.2
    omega
theorem Many.beyond (h : Many n en ms y mo d T k) : ¬ (se (T + ((k + 1 : Nat) : Int) * ms) = 0 ∧ sx false y mo d (T + ((k + 1 : Nat) : Int) * ms) = en + 1) := fun ⟨e, g⟩ => by
  have r := h.lt k (k + 1) (by omega) (se_zero.1 e).2
  rw [h.hen] at r
  omega
theorem Many.qF (h : Many n en ms y mo d T k) (lg : Bool) : (Tm.mk 1 0 0 0 n en ms false lg false 0).q (fun i => sx false y mo d (T + (i : Int) * ms)) (fun i => se (T + (i : Int) * ms)) k = k - 1 :=
  if_neg (fun g => g.2.2 ⟨h.sez k (Nat.le_refl _), h.hen⟩)
theorem Many.backx (h : Many n en ms y mo d T k) (i : Nat) (hi : i ≤ k) : T + (k : Int) * ms + (i : Int) * -ms = T + ((k - i : Nat) : Int) * ms := by
  rw [Int.mul_neg, show ((k - i : Nat) : Int) = (k : Int) - i by omega, Int.sub_mul]
  omega
theorem Many.qB (h : Many n en ms y mo d T k) (lg : Bool) : (Tm.mk 1 0 0 0 n en ms true lg false 0).q (fun i => sx false y mo d (T + (k : Int) * ms + (i : Int) * -ms)) (fun i => se (T + (k : Int) * ms + (i : Int) * -ms)) k = k - 1 :=
  if_neg (fun g => g.2.2 ⟨by
    show se (T + (k : Int) * ms + (k : Int) * -ms) = 0
    rw [h.backx k (Nat.le_refl _)]; exact h.sez _ (by omega), by
    show sx false y mo d (T + (k : Int) * ms + (k : Int) * -ms) = n
    rw [h.backx k (Nat.le_refl _), Nat.sub_self]; exact h.x0⟩)
theorem Many.same (h : Many n en ms y mo d T k) (lg : Bool) (i : Nat) (hi : i ≤ k) :
    (Tm.mk 1 0 0 0 n en ms false lg false 0).dd (fun i => sx false y mo d (T + (i : Int) * ms)) (k - 1) i = (Tm.mk 1 0 0 0 n en ms true lg false 0).dd (fun i => sx false y mo d (T + (k : Int) * ms + (i : Int) * -ms)) (k - 1) i := by
  have one := h.hone
  have e1 : (Tm.mk 1 0 0 0 n en ms false lg false 0).dd (fun i => sx false y mo d (T + (i : Int) * ms)) (k - 1) i = sx false y mo d (T + (i : Int) * ms) := by
    unfold Tm.dd
    rw [if_neg Bool.false_ne_true]
    by_cases c : i ≤ k - 1
    · rw [if_pos c]
    · rw [if_neg c, show i = k by omega, h.hen]
  have e2 : (Tm.mk 1 0 0 0 n en ms true lg false 0).dd (fun i => sx false y mo d (T + (k : Int) * ms + (i : Int) * -ms)) (k - 1) i = sx false y mo d (T + (i : Int) * ms) := by
    unfold Tm.dd
    rw [if_pos rfl]
    by_cases c : i = 0
    · rw [if_pos c, c, h.x0]
    · rw [if_neg c, show k - 1 + 1 - i = k - i by omega]
      show sx false y mo d (T + (k : Int) * ms + ((k - i : Nat) : Int) * -ms) = _
      rw [h.backx (k - i) (by omega), show k - (k - i) = i by omega]
  rw [e1, e2]
theorem many_is (n ms z : Int) (j : Nat) (hMo : Mo ms) (jb : j ≤ 99) (hz : ((j : Int) + 1) * ms = z) :
    ∃ y mo d e r e2, DayIs n y mo d e ∧ MoveIs n z false r e2 ∧ (e = 0 ∨ e = 3) ∧ (e2 = 0 ∨ e2 = 3) ∧ (e = 0 → e2 = 0 → d ≤ 28 → Many n r ms y mo d (12 * y + mo - 1) (j + 1)) := by
  by_cases h : n < 1 ∨ 3652059 < n
  · exact ⟨0, 0, 0, 3, 0, 3, Or.inr ⟨h, rfl, rfl, rfl, rfl⟩, move_out h, Or.inr rfl, Or.inr rfl, fun e => absurd e (by decide)⟩
  · obtain ⟨y, m, d, h1, h2⟩ := day_of n (by omega) (by omega)
    have zb : 1 ≤ z := by
      have := mo_bd hMo
      have := Int.mul_pos (show 0 < (j : Int) + 1 by omega) (show 0 < ms by omega)
      omega
    by_cases hk : 120000 < 12 * y + m + z
    · exact ⟨y, m, d, 0, 0, 3, Or.inl ⟨h1, h2, rfl⟩, move_far y m d h1 h2 (Or.inr hk), Or.inl rfl, Or.inr rfl, fun _ e => absurd e (by decide)⟩
    · have a1 := h1.1
      have a2 := h1.2.1
      have a3 := h1.2.2.1
      have a4 := h1.2.2.2.1
      refine ⟨y, m, d, 0, _, 0, Or.inl ⟨h1, h2, rfl⟩, move_in y m d ((12 * y + m + z - 1) / 12) ((12 * y + m + z - 1) % 12 + 1) _ h1 h2 (by omega) (by omega) (by omega) (by omega) (by omega) rfl rfl, Or.inl rfl, Or.inl rfl, fun _ _ h28 => ⟨h1, h2, h28, rfl, hMo, by omega, by omega, ?_, ?_⟩⟩
      · rw [show (((j + 1 : Nat) : Int)) = (j : Int) + 1 by omega, hz]; omega
      · rw [show (((j + 1 : Nat) : Int)) = (j : Int) + 1 by omega, hz, show 12 * y + m - 1 + z = 12 * y + m + z - 1 by omega]
        unfold sx
        rw [if_pos (by omega)]
end Go.Proofs.YtjijgcgbnmobfaaGreatDoor
