/- WideMuls: the walk of the statement's Go text. -/
import Derived.Test.YtcpifgoglcoeeaaShown
namespace Go.Proofs.Ytcpifgoglcoeeaa
open Go.RowKit

theorem wn0 (a : Int) : wn 0 a = a := by unfold wn; omega
theorem hi_small (a : Int) (h0 : 0 ≤ a) (h1 : a < 18446744073709551616) : hi a = 0 := by unfold hi; omega
theorem lo_small (a : Int) (h0 : 0 ≤ a) (h1 : a < 18446744073709551616) : lo a = a := by unfold lo; omega
theorem prod_bd (a b : Int) (A B : Int) (a0 : 0 ≤ a) (a1 : a ≤ A) (b0 : 0 ≤ b) (b1 : b ≤ B) : 0 ≤ a * b ∧ a * b ≤ A * B :=
  ⟨Int.mul_nonneg a0 b0, Int.mul_le_mul a1 b1 b0 (by omega)⟩

/-- Two variables of two cells each, and what was there before: kept behind a call that only makes memory. -/
theorem two_kept {w W w' : World} {p q : Nat} {u0 u1 v0 v1 : Value}
    (h : W.cell? ⟨p, 0, none⟩ = some u0 ∧ W.cell? ⟨p, 1, none⟩ = some u1 ∧ W.cell? ⟨q, 0, none⟩ = some v0 ∧ W.cell? ⟨q, 1, none⟩ = some v1 ∧ p < W.heap.size ∧ q < W.heap.size ∧ Below w.heap.size w W) (hb : Below W.heap.size W w') :
    w'.cell? ⟨p, 0, none⟩ = some u0 ∧ w'.cell? ⟨p, 1, none⟩ = some u1 ∧ w'.cell? ⟨q, 0, none⟩ = some v0 ∧ w'.cell? ⟨q, 1, none⟩ = some v1 ∧ p < w'.heap.size ∧ q < w'.heap.size ∧ Below w.heap.size w w' := by
  obtain ⟨a, b, c, d, e, f, g⟩ := h
  have := hb.size
  exact ⟨keep hb e a, keep hb e b, keep hb f c, keep hb f d, by omega, by omega, stepC g hb⟩

theorem two_last {w W : World} {p q : Nat} {u0 u1 v0 v1 : Value}
    (h : W.cell? ⟨p, 0, none⟩ = some u0 ∧ W.cell? ⟨p, 1, none⟩ = some u1 ∧ W.cell? ⟨q, 0, none⟩ = some v0 ∧ W.cell? ⟨q, 1, none⟩ = some v1 ∧ p < W.heap.size ∧ q < W.heap.size ∧ Below w.heap.size w W) : Below w.heap.size w W := h.2.2.2.2.2.2

set_option maxHeartbeats 4000000 in
set_option maxRecDepth 100000 in
theorem muls_walk (a b c : Int) (w : World) (a0 : 0 ≤ a) (a1 : a < 18446744073709551616) (b0 : 0 ≤ b) (b1 : b < 18446744073709551616) (c0 : 0 ≤ c) (c1 : c < 18446744073709551616) :
    Calls Try.prog 7 #[.int .u64 a, .int .u64 b, .int .u64 c] w fun e w' => e = .returned (.bool true) ∧ Below w.heap.size w w' := by
  obtain ⟨X, hX⟩ : ∃ X, a / 2 = X := ⟨_, rfl⟩
  obtain ⟨Y, hY⟩ : ∃ Y, b / 2 = Y := ⟨_, rfl⟩
  have x0 : 0 ≤ X := by omega
  have x2 : X ≤ 9223372036854775807 := by omega
  have x1 : X < 18446744073709551616 := by omega
  have y0 : 0 ≤ Y := by omega
  have y2 : Y ≤ 9223372036854775807 := by omega
  have y1 : Y < 18446744073709551616 := by omega
  obtain ⟨xc0, xc2⟩ := prod_bd X c _ _ x0 x2 c0 (show c ≤ 18446744073709551615 by omega)
  obtain ⟨yc0, yc2⟩ := prod_bd Y c _ _ y0 y2 c0 (show c ≤ 18446744073709551615 by omega)
  obtain ⟨ab0, ab2⟩ := prod_bd a b _ _ a0 (show a ≤ 18446744073709551615 by omega) b0 (show b ≤ 18446744073709551615 by omega)
  have xc1 : X * c < top := by unfold top; omega
  have yc1 : Y * c < top := by unfold top; omega
  have sc : X * c + Y * c < top := by unfold top; omega
  have ab1 : a * b < top := by unfold top; omega
  clear xc2 yc2 ab2
  go_enter Try.func7, Try.ntmps7
  go_wp2_with fail
  refine (shown_any _).mono ?_
  rintro e w1 ⟨rfl, hb1⟩
  have g1 := sizeB hb1
  have B1 := hb1
  clear hb1 g1
  go_wp2_with fail
  refine (mul_any X c _ x0 x1 c0 c1).mono ?_
  rintro e w2 ⟨rfl, hb2⟩
  have g2 := sizeB hb2
  have B2 := stepC B1 hb2
  clear hb2 g2 B1
  go_wp2_with fail
  refine (mul_any Y c _ y0 y1 c0 c1).mono ?_
  rintro e w3 ⟨rfl, hb3⟩
  have g3 := sizeB hb3
  have B3 := stepC B2 hb3
  clear hb3 g3 B2
  go_wp2_with fail
  refine (add_yes (hi (X * c)) (lo (X * c)) (hi (Y * c)) (lo (Y * c)) _ (lo_bd _).1 (lo_bd _).2 (hi_bd _ xc0 xc1).1 (hi_bd _ xc0 xc1).2 (lo_bd _).1 (lo_bd _).2 (hi_bd _ yc0 yc1).1 (hi_bd _ yc0 yc1).2 (by rw [wn_hi_lo, wn_hi_lo]; exact sc)).mono ?_
  rw [wn_hi_lo, wn_hi_lo]
  rintro e w4 ⟨rfl, hb4⟩
  have g4 := sizeB hb4
  have B4 := stepC B3 hb4
  clear hb4 g4 B3
  go_wp2_with fail
  refine (of_any a _).mono ?_
  rintro e w5 ⟨rfl, hb5⟩
  have g5 := growA hb5
  have B5 := stepA B4 hb5
  obtain ⟨s0, s1⟩ := own2 hb5
  have ls : w4.heap.size < w5.heap.size := g5
  clear hb5 g5 B4
  go_wp2_with fail
  refine (times_yes 0 a b _ a0 a1 (by decide) (by decide) b0 b1 (by rw [wn0]; exact ab1)).mono ?_
  rw [wn0]
  rintro e w6 ⟨rfl, hb6⟩
  have g6 := sizeB hb6
  have B6 := stepC B5 hb6
  replace s0 := keep hb6 (by omega) s0
  replace s1 := keep hb6 (by omega) s1
  replace ls : w4.heap.size < w6.heap.size := by omega
  clear hb6 g6 B5
  go_wp2_with fail
  have hba : b * a = a * b := Int.mul_comm b a
  have hXY : (X + Y) * c = X * c + Y * c := Int.add_mul X Y c
  have hsum : IntKind.u64.wrap (X + Y) = X + Y := by rw [IntKind.wrap_u64]; omega
  have ha := hi_small a a0 a1
  have la := lo_small a a0 a1
  have h00 : hi 0 = 0 := rfl
  have l00 : lo 0 = 0 := rfl
  have S0 : ((w6.alloc (.cells #[.int .u64 (hi (a * b)), .int .u64 (lo (a * b))] 24)).drew).cell? ⟨w4.heap.size, 0, none⟩ = some (.int .u64 (hi (X * c + Y * c))) ∧ ((w6.alloc (.cells #[.int .u64 (hi (a * b)), .int .u64 (lo (a * b))] 24)).drew).cell? ⟨w4.heap.size, 1, none⟩ = some (.int .u64 (lo (X * c + Y * c))) ∧
      ((w6.alloc (.cells #[.int .u64 (hi (a * b)), .int .u64 (lo (a * b))] 24)).drew).cell? ⟨w6.heap.size, 0, none⟩ = some (.int .u64 (hi (a * b))) ∧ ((w6.alloc (.cells #[.int .u64 (hi (a * b)), .int .u64 (lo (a * b))] 24)).drew).cell? ⟨w6.heap.size, 1, none⟩ = some (.int .u64 (lo (a * b))) ∧
      w4.heap.size < ((w6.alloc (.cells #[.int .u64 (hi (a * b)), .int .u64 (lo (a * b))] 24)).drew).heap.size ∧ w6.heap.size < ((w6.alloc (.cells #[.int .u64 (hi (a * b)), .int .u64 (lo (a * b))] 24)).drew).heap.size ∧ Below w.heap.size w ((w6.alloc (.cells #[.int .u64 (hi (a * b)), .int .u64 (lo (a * b))] 24)).drew) :=
    ⟨new_cell s0 ls, new_cell s1 ls, by simp [World.cell?_alloc_new], by simp [World.cell?_alloc_new], by simp; omega, by simp, (B6.alloc B6.size _).drew⟩
  have HS := Lib.hid S0
  clear S0 s0 s1
  go_region_held3 (fun w' => w'.cell? ⟨w4.heap.size, 0, none⟩ = some (.int .u64 (hi (X * c + Y * c))) ∧ w'.cell? ⟨w4.heap.size, 1, none⟩ = some (.int .u64 (lo (X * c + Y * c))) ∧ w'.cell? ⟨w6.heap.size, 0, none⟩ = some (.int .u64 (hi (a * b))) ∧ w'.cell? ⟨w6.heap.size, 1, none⟩ = some (.int .u64 (lo (a * b))) ∧
      w4.heap.size < w'.heap.size ∧ w6.heap.size < w'.heap.size ∧ Below w.heap.size w w') (first | exact HS.out | (refine two_kept ?_ hb; assumption))
    (first
      | (go_at_call 22; refine (mul_any _ _ _ ?_ ?_ ?_ ?_).mono ?_; (omega); (omega); (omega); (omega); rintro e w' ⟨rfl, hb⟩)
      | (go_at_call 21; refine (of_any _ _).mono ?_; rintro e w' ⟨rfl, hb⟩))
  go_wp2_with fail
  go_ret
  refine ⟨rfl, ?_⟩
  exact two_last (by assumption)
end Go.Proofs.Ytcpifgoglcoeeaa
