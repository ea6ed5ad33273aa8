/- IsoParts: a byte set into a text: what is read. -/
import Derived.Test.YtgdhpganognmlaaDoorIsShown
namespace Go.Proofs.YtgdhpganognmlaaDoor
open Go.RowKit
set_option linter.unusedVariables false
set_option linter.unusedSimpArgs false

theorem set_at (l : List UInt8) (i j : Nat) (b : UInt8) (hi : i < l.length) : bsl (l.set i b) j = if i = j then (b.toNat : Int) else bsl l j := by
  unfold bsl
  rw [List.getD_eq_getElem?_getD, List.getD_eq_getElem?_getD, List.getElem?_set]
  split
  · rename_i h; subst h; simp
  · rfl
theorem txt_gd (y m d : Int) (j : Nat) (hj : j < 10) : gd (bsl (txt y m d)) j := by
  have q : (45 : UInt8).toNat = 45 := rfl
  have g : ∀ n : Int, 48 ≤ ((dg n).toNat : Int) ∧ ((dg n).toNat : Int) ≤ 57 := fun n => by rw [dg_nat]; omega
  rw [txt_eq]
  have : j = 0 ∨ j = 1 ∨ j = 2 ∨ j = 3 ∨ j = 4 ∨ j = 5 ∨ j = 6 ∨ j = 7 ∨ j = 8 ∨ j = 9 := by omega
  rcases this with rfl | rfl | rfl | rfl | rfl | rfl | rfl | rfl | rfl | rfl <;> unfold gd bsl
  all_goals first
    | (rw [if_neg (by decide)]; simp only [List.getD_cons_succ, List.getD_cons_zero]; exact g _)
    | (rw [if_pos (by decide)]; simp only [List.getD_cons_succ, List.getD_cons_zero]; rfl)
/-- The byte may not stand there. -/
theorem set_bad (y m d x f : Int) (i : Nat) (b : UInt8) (hi : i < 10) (h : ReadIs ((txt y m d).set i b) x f) (hb : ¬ (if i = 4 ∨ i = 7 then (b.toNat : Int) = 45 else 48 ≤ (b.toNat : Int) ∧ (b.toNat : Int) ≤ 57)) : x = 0 ∧ f = 10 := by
  refine read_bad _ x f h i hi (fun g => hb ?_)
  unfold gd at g
  rw [set_at _ _ _ _ (by rw [txt_len]; exact hi), if_pos rfl] at g
  exact g
/-- The byte may stand there: a day, or none; the same one just if the text is the same. -/
theorem set_good (y m d n e x f : Int) (i : Nat) (b : UInt8) (hi : i < 10) (h0 : ReadIs (txt y m d) n e) (he : n = nN y m d ∧ e = nE y m d) (h : ReadIs ((txt y m d).set i b) x f) (hb : if i = 4 ∨ i = 7 then (b.toNat : Int) = 45 else 48 ≤ (b.toNat : Int) ∧ (b.toNat : Int) ≤ 57) :
    (f = 0 ∨ f = 3) ∧ ((txt y m d).set i b ≠ txt y m d → f = 0 → x ≠ n) := by
  have hall : ∀ j, j < 10 → gd (bsl ((txt y m d).set i b)) j := by
    intro j hj
    have g := txt_gd y m d j hj
    unfold gd at g ⊢
    rw [set_at _ _ _ _ (by rw [txt_len]; exact hi)]
    by_cases hij : i = j
    · subst hij; rw [if_pos rfl]; exact hb
    · rw [if_neg hij]; exact g
  refine ⟨?_, ?_⟩
  · obtain ⟨x0, x1, x2, x3, x4, x5, x6, x7, x8, x9, hl⟩ := list10 ((txt y m d).set i b) (by rw [List.length_set, txt_len])
    rw [hl] at h hall
    have r := (read_good _ _ _ _ _ _ _ _ _ _ x f h hall).2
    rw [r]
    unfold nE
    split <;> simp
  · intro hne hf hx
    subst hf
    obtain ⟨y1, m1, d1, a, b1, c1⟩ := txt_read _ x h
    have bd := nb_bd _ _ _ a
    by_cases hm : may y m d
    · have z := n_yes hm
      obtain ⟨rfl, rfl, rfl⟩ := nb_inj y m d y1 m1 d1 hm a (by omega)
      exact hne c1.symm
    · have z := n_no hm
      omega
/-- The text with the byte set, put together as the statement does. -/
theorem put_set (l : List UInt8) (S : ByteArray) (hl : l.length = 10) (hS : (⟨l.toArray⟩ : ByteArray) = S) (k : Int) (c : Int) (h1 : 0 ≤ k) (h2 : k < 10) : ∃ T1 : ByteArray,
    (∀ w, (Op.stringOp .add (S.extract 0 k.toNat) (⟨#[UInt8.ofNat c.toNat]⟩ : ByteArray)).run Tryd.prog w = .ok (.string T1) w) ∧
    (∀ w, (Op.stringOp .add T1 (S.extract (k + 1).toNat 10)).run Tryd.prog w = .ok (.string ⟨(l.set k.toNat (UInt8.ofNat c.toNat)).toArray⟩) w) := by
  subst hS
  refine ⟨⟨(l.take k.toNat ++ [UInt8.ofNat c.toNat]).toArray⟩, fun w => ?_, fun w => ?_⟩
  · rw [ByteArray.extract_mk]
    simp only [List.drop_zero, Nat.sub_zero]
    exact add_lists _ [_] (by simp; omega) w
  · rw [ByteArray.extract_mk, add_lists _ _ (by simp; omega) w]
    have e : l.set k.toNat (UInt8.ofNat c.toNat) = l.take k.toNat ++ UInt8.ofNat c.toNat :: l.drop (k.toNat + 1) := by rw [List.set_eq_take_append_cons_drop, if_pos (by omega)]
    have e1 : (k + 1).toNat = k.toNat + 1 := by omega
    have e2 : (l.drop (k.toNat + 1)).take (10 - (k.toNat + 1)) = l.drop (k.toNat + 1) := List.take_of_length_le (by simp; omega)
    rw [e, e1, e2]
    simp
end Go.Proofs.YtgdhpganognmlaaDoor
