/- The reference's numbers of any size: a wide number, an int, 2^128, and whether a number is a wide one. -/
import Derived.Test.YtmaioofcmgaakaaGreatDoorBigN
namespace Go.Proofs.YtmaioofcmgaakaaGreatDoor
open Go.RowKit

/-- What is loaded while a wide number is taken apart: its halves, and 2^32. -/
structure Wided (w : World) (B h : Nat) (xh xl : Int) (vh : Value) (W : World) : Prop where
  c0 : W.cell? ⟨B, 0, none⟩ = some (.int .u64 xh)
  c1 : W.cell? ⟨B, 1, none⟩ = some (.int .u64 xl)
  ch : W.cell? ⟨h, 0, none⟩ = some vh
  nh : BigN W vh 4294967296 5
  rf : W.frozen? ⟨B + 1, 0, none⟩ = false
  old : Below B w W
  size : B + 2 ≤ W.heap.size
theorem Wided.below {w : World} {B h : Nat} {xh xl : Int} {vh : Value} {W W' : World} (k : Wided w B h xh xl vh W) (hb : Below W.heap.size W W') : Wided w B h xh xl vh W' :=
  ⟨keep hb (cell_lt k.c0) k.c0, keep hb (cell_lt k.c1) k.c1, keep hb (cell_lt k.ch) k.ch, k.nh.below hb, frozen_below hb (by have := k.size; omega) k.rf, k.old.trans (hb.mono (by have := k.size; omega)), by have := k.size; have := hb.size; omega⟩

theorem Wided.drew {w : World} {B h : Nat} {xh xl : Int} {vh : Value} {W : World} (k : Wided w B h xh xl vh W) : Wided w B h xh xl vh W.drew := ⟨k.c0, k.c1, k.ch, k.nh, k.rf, k.old.drew, k.size⟩
theorem Wided.stored {w : World} {B h : Nat} {xh xl : Int} {vh : Value} {W : World} (k : Wided w B h xh xl vh W) (hh : B + 2 ≤ h) (hv : ∀ g, vh.ownBlock = some g → B + 2 ≤ g) (u : Value) : Wided w B h xh xl vh (W.setCell ⟨B + 1, 0, none⟩ u) :=
  ⟨by rw [World.cell?_setCell_far _ _ _ _ (by simp)]; exact k.c0, by rw [World.cell?_setCell_far _ _ _ _ (by simp)]; exact k.c1, by rw [World.cell?_setCell_far _ _ _ _ (by simp; omega)]; exact k.ch, bigN_set_old k.nh hv (by simp), by rw [World.frozen?_setCell]; exact k.rf, k.old.setCell (by simp) _, by simpa using k.size⟩
theorem widedS {w : World} {B h : Nat} {xh xl : Int} {vh : Value} {W : World} (k : W.cell? ⟨B, 0, none⟩ = some (.int .u64 xh) ∧ W.cell? ⟨B, 1, none⟩ = some (.int .u64 xl) ∧ W.cell? ⟨h, 0, none⟩ = some vh ∧ Wided w B h xh xl vh W) : Wided w B h xh xl vh W := k.2.2.2
theorem widedS' {w : World} {B h : Nat} {xh xl : Int} {vh : Value} {W : World} (k : Wided w B h xh xl vh W) : W.cell? ⟨B, 0, none⟩ = some (.int .u64 xh) ∧ W.cell? ⟨B, 1, none⟩ = some (.int .u64 xl) ∧ W.cell? ⟨h, 0, none⟩ = some vh ∧ Wided w B h xh xl vh W := ⟨k.c0, k.c1, k.ch, k⟩
theorem wided_start {w w1 : World} {xh xl : Int} {vh z : Value} {t t2 : TypeId} (nh : BigN w1 vh 4294967296 5) (hb : Below ((w.alloc (.cells #[.int .u64 xh, .int .u64 xl] t)).alloc (.cells #[z] t2)).heap.size ((w.alloc (.cells #[.int .u64 xh, .int .u64 xl] t)).alloc (.cells #[z] t2)) w1) :
    Wided w w.heap.size w1.heap.size xh xl vh (w1.alloc (.cells #[vh] t2)) ∧ (w1.alloc (.cells #[vh] t2)).cell? ⟨w.heap.size + 1, 0, none⟩ = some z ∧ w.heap.size + 2 ≤ w1.heap.size := by
  have hs := hb.size
  simp at hs
  have k := fun (o : Nat) (v : Value) (e : ((w.alloc (.cells #[.int .u64 xh, .int .u64 xl] t)).alloc (.cells #[z] t2)).cell? ⟨w.heap.size, o, none⟩ = some v) => keep hb (by simp; omega) e
  have k1 : w1.cell? ⟨w.heap.size + 1, 0, none⟩ = some z := keep hb (by simp) (by simp [go_sem])
  have f1 : w1.frozen? ⟨w.heap.size + 1, 0, none⟩ = false := frozen_below hb (by simp) (by simp [go_sem])
  refine ⟨⟨new_cell (k 0 _ (by simp [go_sem])) (by omega), new_cell (k 1 _ (by simp [go_sem])) (by omega), by simp [World.cell?_alloc_new], nh.alloc _, ?_, ?_, by simp; omega⟩, new_cell k1 (by omega), hs⟩
  · exact frozen_below (Below.refl _ _ |>.alloc (Nat.le_refl _) _) (by omega) f1
  · exact ((((Below.refl _ _).alloc (Nat.le_refl _) _).alloc (by simp) _).trans (hb.mono (by simp <;> omega))).alloc (by omega) _
theorem wn_parts (xh xl : Int) : xh * 4294967296 * 4294967296 + xl = wn xh xl := by unfold wn; omega

end Go.Proofs.YtmaioofcmgaakaaGreatDoor
