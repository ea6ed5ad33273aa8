/- The document's example, at the head of each statement of layer 1: it holds. -/
import Derived.Test.YtcpifgoglcoeeaaDivC
import Derived.WalkLawsBesides
namespace Go.Proofs.Ytcpifgoglcoeeaa
open Go.RowKit

/-- A cell that was there is there still, behind a call that only makes memory. -/
theorem keep {W w' : World} {p k : Nat} {v : Value} (hb : Below W.heap.size W w') (hp : p < W.heap.size) (h : W.cell? ⟨p, k, none⟩ = some v) : w'.cell? ⟨p, k, none⟩ = some v :=
  (hb.cell (p := ⟨p, k, none⟩) hp).trans h
/-- The same behind a new block and a call. -/
theorem keepA {w1 w' : World} {o : Obj} {p k : Nat} {v : Value} (hb : Below (w1.alloc o).heap.size (w1.alloc o) w') (hp : p < w1.heap.size) (h : w1.cell? ⟨p, k, none⟩ = some v) : w'.cell? ⟨p, k, none⟩ = some v :=
  keep hb (by simp; omega) (new_cell h hp)
theorem own2 {w1 w' : World} {v0 v1 : Value} {t : TypeId} (hb : Below (w1.alloc (.cells #[v0, v1] t)).heap.size (w1.alloc (.cells #[v0, v1] t)) w') :
    w'.cell? ⟨w1.heap.size, 0, none⟩ = some v0 ∧ w'.cell? ⟨w1.heap.size, 1, none⟩ = some v1 :=
  ⟨keep hb (by simp) (by simp [World.cell?_alloc_new]), keep hb (by simp) (by simp [World.cell?_alloc_new])⟩
theorem growA {w1 w' : World} {o : Obj} (hb : Below (w1.alloc o).heap.size (w1.alloc o) w') : w1.heap.size < w'.heap.size := by have := hb.size; simp at this; omega
theorem sizeB {w1 w' : World} {B : Nat} (hb : Below B w1 w') : w1.heap.size ≤ w'.heap.size := hb.size
theorem stepA {w w1 w' : World} {o : Obj} (hB : Below w.heap.size w w1) (hb : Below (w1.alloc o).heap.size (w1.alloc o) w') : Below w.heap.size w w' :=
  (hB.alloc hB.size o).trans (hb.mono (by have := hB.size; simp; omega))
theorem stepC {w w1 w' : World} (hB : Below w.heap.size w w1) (hb : Below w1.heap.size w1 w') : Below w.heap.size w w' :=
  hB.trans (hb.mono hB.size)

set_option maxHeartbeats 1000000 in
set_option maxRecDepth 100000 in
theorem shown_any (w : World) : Calls Try.prog 10 #[] w fun e w' => e = .returned (.bool true) ∧ Below w.heap.size w w' := by
  go_enter Try.func10, Try.ntmps10
  go_wp2_with fail
  refine (mul_any 9223372036854775808 6 _ (by decide) (by decide) (by decide) (by decide)).mono ?_
  rw [show hi (9223372036854775808 * 6) = 3 from rfl, show lo (9223372036854775808 * 6) = 0 from rfl]
  rintro e w1 ⟨rfl, hb1⟩
  have g1 := sizeB hb1
  have B1 := hb1
  clear hb1 g1
  go_wp2_with fail
  refine (div_yes 3 0 4 _ (by decide) (by decide) (by decide) (by decide) (by decide) (by decide)).mono ?_
  rw [show hi (wn 3 0 / 4) = 0 from rfl, show lo (wn 3 0 / 4) = 13835058055282163712 from rfl, show wn 3 0 % 4 = 0 from rfl]
  rintro e w2 ⟨rfl, hb2⟩
  have g2 := growA hb2
  have B2 := stepA B1 hb2
  obtain ⟨x0, x1⟩ := own2 hb2
  have lx : w1.heap.size < w2.heap.size := g2
  clear hb2 g2 B1
  go_wp2_with fail
  refine (div_no 3 0 _).mono ?_
  rintro e w3 ⟨rfl, hb3⟩
  have g3 := growA hb3
  have B3 := stepA B2 hb3
  replace x0 := keepA hb3 (by omega) x0
  replace x1 := keepA hb3 (by omega) x1
  replace lx : w1.heap.size < w3.heap.size := by omega
  obtain ⟨q0, q1⟩ := own2 hb3
  have lq : w2.heap.size < w3.heap.size := g3
  clear hb3 g3 B2
  go_wp2_with fail
  refine (times_no 9223372036854775808 0 2 _ (by decide) (by decide) (by decide) (by decide) (by decide) (by decide) (by decide)).mono ?_
  rintro e w4 ⟨rfl, hb4⟩
  have g4 := growA hb4
  have B4 := stepA B3 hb4
  replace x0 := keepA hb4 (by omega) x0
  replace x1 := keepA hb4 (by omega) x1
  replace q0 := keepA hb4 (by omega) q0
  replace q1 := keepA hb4 (by omega) q1
  replace lx : w1.heap.size < w4.heap.size := by omega
  replace lq : w2.heap.size < w4.heap.size := by omega
  clear hb4 g4 B3
  go_wp2_with fail
  refine (of_any 1 _).mono ?_
  rintro e w5 ⟨rfl, hb5⟩
  have g5 := growA hb5
  have B5 := stepA B4 hb5
  replace x0 := keepA hb5 (by omega) x0
  replace x1 := keepA hb5 (by omega) x1
  replace q0 := keepA hb5 (by omega) q0
  replace q1 := keepA hb5 (by omega) q1
  replace lx : w1.heap.size < w5.heap.size := by omega
  replace lq : w2.heap.size < w5.heap.size := by omega
  clear hb5 g5 B4
  go_wp2_with fail
  refine (of_any 2 _).mono ?_
  rintro e w6 ⟨rfl, hb6⟩
  have g6 := sizeB hb6
  have B6 := stepC B5 hb6
  replace x0 := keep hb6 (by omega) x0
  replace x1 := keep hb6 (by omega) x1
  replace q0 := keep hb6 (by omega) q0
  replace q1 := keep hb6 (by omega) q1
  replace lx : w1.heap.size < w6.heap.size := by omega
  replace lq : w2.heap.size < w6.heap.size := by omega
  clear hb6 g6 B5
  go_wp2_with fail
  refine (sub_no 0 1 0 2 _ (by decide) (by decide) (by decide) (by decide) (by decide) (by decide) (by decide) (by decide) (by decide)).mono ?_
  rintro e w7 ⟨rfl, hb7⟩
  have g7 := sizeB hb7
  have B7 := stepC B6 hb7
  replace x0 := keep hb7 (by omega) x0
  replace x1 := keep hb7 (by omega) x1
  replace q0 := keep hb7 (by omega) q0
  replace q1 := keep hb7 (by omega) q1
  replace lx : w1.heap.size < w7.heap.size := by omega
  replace lq : w2.heap.size < w7.heap.size := by omega
  clear hb7 g7 B6
  go_wp2_with fail
  refine (add_no 18446744073709551615 0 1 0 _ (by decide) (by decide) (by decide) (by decide) (by decide) (by decide) (by decide) (by decide) (by decide)).mono ?_
  rintro e w8 ⟨rfl, hb8⟩
  have g8 := growA hb8
  have B8 := stepA B7 hb8
  replace x0 := keepA hb8 (by omega) x0
  replace x1 := keepA hb8 (by omega) x1
  replace q0 := keepA hb8 (by omega) q0
  replace q1 := keepA hb8 (by omega) q1
  replace lx : w1.heap.size < w8.heap.size := by omega
  replace lq : w2.heap.size < w8.heap.size := by omega
  clear hb8 g8 B7
  go_wp2_with fail
  refine (cmp_any 3 0 0 13835058055282163712 _ (by decide) (by decide) (by decide) (by decide)).mono ?_
  rw [show cmpI (wn 3 0) (wn 0 13835058055282163712) = 1 from rfl]
  rintro e w9 ⟨rfl, hb9⟩
  have g9 := growA hb9
  have B9 := stepA B8 hb9
  replace x0 := keepA hb9 (by omega) x0
  replace x1 := keepA hb9 (by omega) x1
  replace q0 := keepA hb9 (by omega) q0
  replace q1 := keepA hb9 (by omega) q1
  replace lx : w1.heap.size < w9.heap.size := by omega
  replace lq : w2.heap.size < w9.heap.size := by omega
  clear hb9 g9 B8
  go_wp2_with fail
  refine (cmp_any 0 13835058055282163712 3 0 _ (by decide) (by decide) (by decide) (by decide)).mono ?_
  rw [show cmpI (wn 0 13835058055282163712) (wn 3 0) = -1 from rfl]
  rintro e w10 ⟨rfl, hb10⟩
  have g10 := sizeB hb10
  have B10 := stepC B9 hb10
  replace x0 := keep hb10 (by omega) x0
  replace x1 := keep hb10 (by omega) x1
  replace q0 := keep hb10 (by omega) q0
  replace q1 := keep hb10 (by omega) q1
  replace lx : w1.heap.size < w10.heap.size := by omega
  replace lq : w2.heap.size < w10.heap.size := by omega
  clear hb10 g10 B9
  go_wp2_with fail
  refine (cmp_any 3 0 3 0 _ (by decide) (by decide) (by decide) (by decide)).mono ?_
  rw [show cmpI (wn 3 0) (wn 3 0) = 0 from rfl]
  rintro e w11 ⟨rfl, hb11⟩
  have g11 := sizeB hb11
  have B11 := stepC B10 hb11
  replace x0 := keep hb11 (by omega) x0
  replace x1 := keep hb11 (by omega) x1
  replace q0 := keep hb11 (by omega) q0
  replace q1 := keep hb11 (by omega) q1
  replace lx : w1.heap.size < w11.heap.size := by omega
  replace lq : w2.heap.size < w11.heap.size := by omega
  clear hb11 g11 B10
  go_wp2_with fail
  refine (of_any 7 _).mono ?_
  rintro e w12 ⟨rfl, hb12⟩
  have g12 := sizeB hb12
  have B12 := stepC B11 hb12
  replace x0 := keep hb12 (by omega) x0
  replace x1 := keep hb12 (by omega) x1
  replace q0 := keep hb12 (by omega) q0
  replace q1 := keep hb12 (by omega) q1
  replace lx : w1.heap.size < w12.heap.size := by omega
  replace lq : w2.heap.size < w12.heap.size := by omega
  clear hb12 g12 B11
  go_wp2_with fail
  go_ret
  exact ⟨rfl, B12⟩
end Go.Proofs.Ytcpifgoglcoeeaa
