/- Answers of sums and products, whether they fit or not, under one name each; and what stands behind the boxes of two wide arguments. -/
import Derived.Test.YtmaioofcmgaakaaGreatDoorShown
namespace Go.Proofs.YtmaioofcmgaakaaGreatDoor
open Go.RowKit

/-- What is told of a number that may be too great: its halves and a code. -/
def vH (p : Int) : Int := if p < top then hi p else 0
def vL (p : Int) : Int := if p < top then lo p else 0
def vE (p : Int) : Int := if p < top then 0 else 6
theorem v_yes {p : Int} (h : p < top) : vH p = hi p ∧ vL p = lo p ∧ vE p = 0 := by unfold vH vL vE; rw [if_pos h, if_pos h, if_pos h]; exact ⟨rfl, rfl, rfl⟩
theorem v_no {p : Int} (h : ¬ p < top) : vH p = 0 ∧ vL p = 0 ∧ vE p = 6 := by unfold vH vL vE; rw [if_neg h, if_neg h, if_neg h]; exact ⟨rfl, rfl, rfl⟩

theorem add_any (a1 a0 b1 b0 : Int) (w : World) (k1 : 0 ≤ a0) (k2 : a0 < 18446744073709551616) (k3 : 0 ≤ a1) (k4 : a1 < 18446744073709551616) (k5 : 0 ≤ b0) (k6 : b0 < 18446744073709551616) (k7 : 0 ≤ b1) (k8 : b1 < 18446744073709551616) :
    Calls Tryz.prog 81 #[.agg #[.int .u64 a1, .int .u64 a0], .agg #[.int .u64 b1, .int .u64 b0]] w fun e w' => e = .returned (.tuple #[.agg #[.int .u64 (vH (wn a1 a0 + wn b1 b0)), .int .u64 (vL (wn a1 a0 + wn b1 b0))], .int .i64 (vE (wn a1 a0 + wn b1 b0))]) ∧ Below w.heap.size w w' := by
  by_cases h : wn a1 a0 + wn b1 b0 < top
  · obtain ⟨e1, e2, e3⟩ := v_yes h
    rw [e1, e2, e3]
    exact add_yes a1 a0 b1 b0 w k1 k2 k3 k4 k5 k6 k7 k8 h
  · obtain ⟨e1, e2, e3⟩ := v_no h
    rw [e1, e2, e3]
    exact add_no a1 a0 b1 b0 w k1 k2 k3 k4 k5 k6 k7 k8 (by omega)

theorem boxes2 {w w' : World} {x0 x1 y0 y1 : Value} {t u : TypeId} (hb : Below ((w.alloc (.cells #[x0, x1] t)).alloc (.cells #[y0, y1] u)).heap.size ((w.alloc (.cells #[x0, x1] t)).alloc (.cells #[y0, y1] u)) w') :
    w'.cell? ⟨w.heap.size, 0, none⟩ = some x0 ∧ w'.cell? ⟨w.heap.size, 1, none⟩ = some x1 ∧ w'.cell? ⟨w.heap.size + 1, 0, none⟩ = some y0 ∧ w'.cell? ⟨w.heap.size + 1, 1, none⟩ = some y1 ∧
      w.heap.size < w'.heap.size ∧ w.heap.size + 1 < w'.heap.size ∧ Below w.heap.size w w' := by
  have hs := hb.size
  have e : ((w.alloc (.cells #[x0, x1] t)).alloc (.cells #[y0, y1] u)).heap.size = w.heap.size + 2 := by simp
  rw [e] at hs
  exact ⟨keep hb (by simp <;> omega) (by simp [go_sem]), keep hb (by simp <;> omega) (by simp [go_sem]), keep hb (by simp <;> omega) (by simp [go_sem]), keep hb (by simp <;> omega) (by simp [go_sem]), by omega, by omega,
    (((Below.refl _ _).alloc (Nat.le_refl _) _).alloc (by simp) _).trans (hb.mono (by simp <;> omega))⟩
end Go.Proofs.YtmaioofcmgaakaaGreatDoor
