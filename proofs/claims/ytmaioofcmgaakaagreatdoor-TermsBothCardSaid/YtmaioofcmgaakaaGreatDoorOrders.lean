/- WideOrders: the walk of the statement's Go text. -/
import Derived.Test.YtmaioofcmgaakaaGreatDoorLawKit
import Derived.Deep.CutRange
namespace Go.Proofs.YtmaioofcmgaakaaGreatDoor
open Go.RowKit

theorem cmpI_lt {a b : Int} (h : a < b) : cmpI a b = -1 := by unfold cmpI; rw [if_pos h]
theorem cmpI_eq {a b : Int} (h : a = b) : cmpI a b = 0 := by unfold cmpI; rw [if_neg (by omega), if_neg (by omega)]
theorem cmpI_gt {a b : Int} (h : b < a) : cmpI a b = 1 := by unfold cmpI; rw [if_neg (by omega), if_pos h]
theorem cmpI_le {a b : Int} (h : a ≤ b) : cmpI a b ≤ 0 := by unfold cmpI; split; omega; rw [if_neg (by omega)]; exact Int.le_refl _
theorem cmpI_no {a b : Int} (h : a ≤ b) : decide (0 < cmpI a b) = false := by rw [decide_eq_false_iff_not]; have := cmpI_le h; omega
theorem vb_yes {p : Int} (h : p < top) : (vE p == 0) = true ∧ (vE p != 0) = false := by rw [(v_yes h).2.2]; exact ⟨rfl, rfl⟩
theorem vb_no {p : Int} (h : ¬ p < top) : (vE p == 0) = false ∧ (vE p != 0) = true := by rw [(v_no h).2.2]; exact ⟨rfl, rfl⟩
theorem vL_bd (p : Int) : 0 ≤ vL p ∧ vL p < 18446744073709551616 := by unfold vL; split; exact lo_bd p; decide
theorem wn_v {p : Int} (h : p < top) : wn (vH p) (vL p) = p := by rw [(v_yes h).1, (v_yes h).2.1, wn_hi_lo]
theorem wn_inj {a b c d : Int} (h : wn a b = wn c d) (b0 : 0 ≤ b) (b1 : b < 18446744073709551616) (d0 : 0 ≤ d) (d1 : d < 18446744073709551616) : a = c ∧ b = d := by unfold wn at h; omega

/-- Behind the boxes of the record and of its three numbers, and a call. -/
theorem boxes4 {w w' : World} {x0 x1 y0 y1 z0 z1 : Value} {o : Obj} {t u v : TypeId}
    (hb : Below ((((w.alloc o).alloc (.cells #[x0, x1] t)).alloc (.cells #[y0, y1] u)).alloc (.cells #[z0, z1] v)).heap.size ((((w.alloc o).alloc (.cells #[x0, x1] t)).alloc (.cells #[y0, y1] u)).alloc (.cells #[z0, z1] v)) w') :
    w'.cell? ⟨w.heap.size + 1, 0, none⟩ = some x0 ∧ w'.cell? ⟨w.heap.size + 1, 1, none⟩ = some x1 ∧ w'.cell? ⟨w.heap.size + 1 + 1, 0, none⟩ = some y0 ∧ w'.cell? ⟨w.heap.size + 1 + 1, 1, none⟩ = some y1 ∧ w'.cell? ⟨w.heap.size + 1 + 1 + 1, 0, none⟩ = some z0 ∧ w'.cell? ⟨w.heap.size + 1 + 1 + 1, 1, none⟩ = some z1 ∧
      w.heap.size + 1 < w'.heap.size ∧ w.heap.size + 1 + 1 < w'.heap.size ∧ w.heap.size + 1 + 1 + 1 < w'.heap.size ∧ Below w.heap.size w w' := by
  have hs := hb.size
  have e : ((((w.alloc o).alloc (.cells #[x0, x1] t)).alloc (.cells #[y0, y1] u)).alloc (.cells #[z0, z1] v)).heap.size = w.heap.size + 4 := by simp
  rw [e] at hs
  exact ⟨keep hb (by simp <;> omega) (by simp [go_sem]), keep hb (by simp <;> omega) (by simp [go_sem]), keep hb (by simp <;> omega) (by simp [go_sem]), keep hb (by simp <;> omega) (by simp [go_sem]), keep hb (by simp <;> omega) (by simp [go_sem]), keep hb (by simp <;> omega) (by simp [go_sem]), by omega, by omega, by omega,
    (((((Below.refl _ _).alloc (Nat.le_refl _) _).alloc (by simp) _).alloc (by simp <;> omega) _).alloc (by simp <;> omega) _).trans (hb.mono (by simp <;> omega))⟩

end Go.Proofs.YtmaioofcmgaakaaGreatDoor
