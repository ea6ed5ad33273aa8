/- The reference's numbers of any size: an int, 2^128, and whether a number is a wide one. -/
import Derived.Test.YtmaioofcmgaakaaGreatDoorFromW
namespace Go.Proofs.YtmaioofcmgaakaaGreatDoor
open Go.RowKit

/-- A number is handed back by way of the result's variable, block B. -/
theorem numout_of_stored {w W : World} {B m : Nat} {n : Int} {a : Option Addr} {k c : Nat} (hB : w.heap.size = B) (hs : BigN W (.slice a k c) n m) (hf : ∀ g, (Value.slice a k c).ownBlock = some g → B + 1 ≤ g) (old : Below B w W) :
    NumOut n m w (.returned (.agg #[.slice a k c])) (W.setCell ⟨B, 0, none⟩ (.slice a k c)) :=
  ⟨a, k, c, rfl, bigN_set_old hs hf (by simp), fun g hg => by have := hf g hg; omega, by rw [hB]; exact old.setCell (by simp) _⟩

set_option maxHeartbeats 800000 in
theorem from_n (n : Int) (w : World) (h0 : 0 ≤ n) (h1 : n < 9223372036854775808) : Calls Tryz.prog 22 #[.int .i64 n] w (NumOut n 5 w) := by
  have hc : IntKind.u64.wrap n = n := IntWalk.u64_in n (by omega)
  go_enter Tryz.func22, Tryz.ntmps22
  go_wp2_with fail
  (with_reducible refine (fromU_n n _ (by omega) (by omega)).mono ?_)
  rintro e w1 ⟨sa, sk, sc, rfl, NS, FS, hb⟩
  have RF : w1.frozen? ⟨w.heap.size, 0, none⟩ = false := frozen_below hb (by simp) (by simp [go_sem])
  have R : w1.cell? ⟨w.heap.size, 0, none⟩ = some (.slice none 0 0) := keep hb (by simp) (by simp [World.cell?_alloc_new])
  have FIN := Lib.hid (numout_of_stored rfl NS (by simpa using FS) (((Below.refl _ _).alloc (Nat.le_refl _) _).trans (hb.mono (by simp))))
  clear NS FS hb
  go_wp2
  exact bodyPost_ret (v := .agg #[.slice sa sk sc]) (by simp [results, Tryz.results22, go_sem, R]) rfl FIN.out

/-- What is loaded while 2^128 is made: 2^32. -/
structure Halved (w : World) (B h : Nat) (vh : Value) (W : World) : Prop where
  ch : W.cell? ⟨h, 0, none⟩ = some vh
  nh : BigN W vh 4294967296 5
  old : Below B w W
  size : B + 1 ≤ W.heap.size
theorem Halved.below {w : World} {B h : Nat} {vh : Value} {W W' : World} (k : Halved w B h vh W) (hb : Below W.heap.size W W') : Halved w B h vh W' :=
  ⟨keep hb (cell_lt k.ch) k.ch, k.nh.below hb, k.old.trans (hb.mono (by have := k.size; omega)), by have := k.size; have := hb.size; omega⟩
theorem Halved.drew {w : World} {B h : Nat} {vh : Value} {W : World} (k : Halved w B h vh W) : Halved w B h vh W.drew := ⟨k.ch, k.nh, k.old.drew, k.size⟩
theorem Halved.stored {w : World} {B h : Nat} {vh : Value} {W : World} (k : Halved w B h vh W) (hh : B + 1 ≤ h) (hv : ∀ g, vh.ownBlock = some g → B + 1 ≤ g) (u : Value) : Halved w B h vh (W.setCell ⟨B, 0, none⟩ u) :=
  ⟨by rw [World.cell?_setCell_far _ _ _ _ (by simp; omega)]; exact k.ch, bigN_set_old k.nh hv (by simp), k.old.setCell (by simp) _, by simpa using k.size⟩
theorem halvedS {w : World} {B h : Nat} {vh : Value} {W : World} (k : W.cell? ⟨h, 0, none⟩ = some vh ∧ Halved w B h vh W) : Halved w B h vh W := k.2
theorem halvedS' {w : World} {B h : Nat} {vh : Value} {W : World} (k : Halved w B h vh W) : W.cell? ⟨h, 0, none⟩ = some vh ∧ Halved w B h vh W := ⟨k.ch, k⟩
theorem halved_start {w w1 : World} {vh z : Value} {t2 : TypeId} (nh : BigN w1 vh 4294967296 5) (hb : Below (w.alloc (.cells #[z] t2)).heap.size (w.alloc (.cells #[z] t2)) w1) :
    Halved w w.heap.size w1.heap.size vh (w1.alloc (.cells #[vh] t2)) ∧ (w1.alloc (.cells #[vh] t2)).cell? ⟨w.heap.size, 0, none⟩ = some z ∧ (w1.alloc (.cells #[vh] t2)).frozen? ⟨w.heap.size, 0, none⟩ = false ∧ w.heap.size + 1 ≤ w1.heap.size := by
  have hs := hb.size
  simp at hs
  have k1 : w1.cell? ⟨w.heap.size, 0, none⟩ = some z := keep hb (by simp) (by simp [World.cell?_alloc_new])
  have f1 : w1.frozen? ⟨w.heap.size, 0, none⟩ = false := frozen_below hb (by simp) (by simp [go_sem])
  refine ⟨⟨by simp [World.cell?_alloc_new], nh.alloc _, ?_, by simp; omega⟩, new_cell k1 (by omega), ?_, hs⟩
  · exact (((Below.refl _ _).alloc (Nat.le_refl _) _).trans (hb.mono (by simp <;> omega))).alloc (by omega) _
  · exact frozen_below (Below.refl _ _ |>.alloc (Nat.le_refl _) _) (by omega) f1
theorem top_parts : (4294967296 * 4294967296 * (4294967296 * 4294967296) : Int) = top := by unfold top; omega

/-- What is loaded while a number is held against a wide one. -/
structure Boxed (w : World) (B : Nat) (xh xl : Int) (v : Value) (n : Int) (m : Nat) (W : World) : Prop where
  c0 : W.cell? ⟨B, 0, none⟩ = some (.int .u64 xh)
  c1 : W.cell? ⟨B, 1, none⟩ = some (.int .u64 xl)
  cv : W.cell? ⟨B + 1, 0, none⟩ = some v
  nv : BigN W v n m
  old : Below B w W
  size : B + 2 ≤ W.heap.size
theorem Boxed.below {w : World} {B m : Nat} {xh xl n : Int} {v : Value} {W W' : World} (k : Boxed w B xh xl v n m W) (hb : Below W.heap.size W W') : Boxed w B xh xl v n m W' :=
  ⟨keep hb (cell_lt k.c0) k.c0, keep hb (cell_lt k.c1) k.c1, keep hb (cell_lt k.cv) k.cv, k.nv.below hb, k.old.trans (hb.mono (by have := k.size; omega)), by have := k.size; have := hb.size; omega⟩
theorem Boxed.drew {w : World} {B m : Nat} {xh xl n : Int} {v : Value} {W : World} (k : Boxed w B xh xl v n m W) : Boxed w B xh xl v n m W.drew := ⟨k.c0, k.c1, k.cv, k.nv, k.old.drew, k.size⟩
theorem boxedS {w : World} {B m : Nat} {xh xl n : Int} {v : Value} {W : World} (k : W.cell? ⟨B, 0, none⟩ = some (.int .u64 xh) ∧ W.cell? ⟨B, 1, none⟩ = some (.int .u64 xl) ∧ W.cell? ⟨B + 1, 0, none⟩ = some v ∧ Boxed w B xh xl v n m W) : Boxed w B xh xl v n m W := k.2.2.2
theorem boxedS' {w : World} {B m : Nat} {xh xl n : Int} {v : Value} {W : World} (k : Boxed w B xh xl v n m W) : W.cell? ⟨B, 0, none⟩ = some (.int .u64 xh) ∧ W.cell? ⟨B, 1, none⟩ = some (.int .u64 xl) ∧ W.cell? ⟨B + 1, 0, none⟩ = some v ∧ Boxed w B xh xl v n m W := ⟨k.c0, k.c1, k.cv, k⟩
theorem boxed_start {w : World} {xh xl n : Int} {m : Nat} {v : Value} {t t2 : TypeId} (nv : BigN w v n m) : Boxed w w.heap.size xh xl v n m ((w.alloc (.cells #[.int .u64 xh, .int .u64 xl] t)).alloc (.cells #[v] t2)) :=
  ⟨by simp [go_sem], by simp [go_sem], by simp [go_sem], (nv.alloc _).alloc _, ((Below.refl _ _).alloc (Nat.le_refl _) _).alloc (by simp) _, by simp⟩
theorem cmp_zero (x y : Int) : (cmpI x y == 0) = decide (x = y) := by
  by_cases h : x = y
  · rw [cmpI_eq h, decide_eq_true h]; rfl
  · rw [decide_eq_false h]
    by_cases h2 : x < y
    · rw [cmpI_lt h2]; rfl
    · rw [cmpI_gt (by omega)]; rfl

end Go.Proofs.YtmaioofcmgaakaaGreatDoor
