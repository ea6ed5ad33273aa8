/- WideParts: the walk of the statement's Go text. -/
import Derived.Test.YtcpifgoglcoeeaaBack
namespace Go.Proofs.Ytcpifgoglcoeeaa
open Go.RowKit
set_option linter.unusedVariables false

/-- Behind the boxes of the record and of its wide number, and a call. -/
theorem boxesP {w w' : World} {x0 x1 : Value} {o : Obj} {t : TypeId} (hb : Below ((w.alloc o).alloc (.cells #[x0, x1] t)).heap.size ((w.alloc o).alloc (.cells #[x0, x1] t)) w') :
    w'.cell? ⟨w.heap.size + 1, 0, none⟩ = some x0 ∧ w'.cell? ⟨w.heap.size + 1, 1, none⟩ = some x1 ∧ w.heap.size + 1 < w'.heap.size ∧ Below w.heap.size w w' := by
  have hs := hb.size
  have e : ((w.alloc o).alloc (.cells #[x0, x1] t)).heap.size = w.heap.size + 2 := by simp
  rw [e] at hs
  exact ⟨keep hb (by simp <;> omega) (by simp [go_sem]), keep hb (by simp <;> omega) (by simp [go_sem]), by omega, (((Below.refl _ _).alloc (Nat.le_refl _) _).alloc (by simp) _).trans (hb.mono (by simp <;> omega))⟩

/-- A product and a number less than one of its two: the other comes back, and that is left. -/
theorem part_back (m n l : Int) (hn : 0 < n) (l0 : 0 ≤ l) (l1 : l < n) : (m * n + l) / n = m ∧ (m * n + l) % n = l := by
  constructor
  · rw [Int.add_comm, Int.add_mul_ediv_right _ _ (by omega), Int.ediv_eq_zero_of_lt l0 l1, Int.zero_add]
  · rw [Int.add_comm, Int.add_mul_emod_self_right, Int.emod_eq_of_lt l0 l1]

set_option maxHeartbeats 4000000 in
set_option maxRecDepth 100000 in
theorem parts_small_n (xh xl a b m n c : Int) (w : World) (xh0 : 0 ≤ xh) (xh1 : xh < 18446744073709551616) (xl0 : 0 ≤ xl) (xl1 : xl < 18446744073709551616) (a0 : 0 ≤ a) (a1 : a < 4294967296) (b0 : 0 ≤ b) (b1 : b < 4294967296)
    (m0 : 0 ≤ m) (m1 : m < 18446744073709551616) (n0 : 0 ≤ n) (n1 : n < 18446744073709551616) (c0 : 0 ≤ c) (c1 : c < 18446744073709551616) (hp : 1 + a ≤ 2147483648) (hq : 1 + b ≤ 2147483648) (hn : 0 < n) :
    Calls Try.prog 9 #[.agg #[.int .u64 xh, .int .u64 xl, .int .u32 a, .int .u32 b, .int .u64 m, .int .u64 n, .int .u64 c]] w fun e w' => e = .returned (.bool true) ∧ Below w.heap.size w w' := by
  obtain ⟨X0, X1⟩ := wn_bd xh xl xh0 xh1 xl0 xl1
  have d0 : 0 ≤ wn xh xl / (1 + a) := Int.ediv_nonneg X0 (by omega)
  have d1 : wn xh xl / (1 + a) < top := by have := Int.ediv_le_self (1 + a) X0; omega
  have t1 : (n == 0) = false := beq_eq_false_iff_ne.2 (by omega)
  have t2 : ¬ n = 0 := by omega
  have l0 : 0 ≤ c % n := Int.emod_nonneg _ (by omega)
  have l1 : c % n < n := Int.emod_lt_of_pos _ hn
  obtain ⟨mn0, mn2⟩ := prod_bd m n _ _ m0 (show m ≤ 18446744073709551615 by omega) n0 (show n ≤ 18446744073709551615 by omega)
  have mn1 : m * n < top := by unfold top; omega
  have sm0 : 0 ≤ m * n + c % n := by omega
  have sm1 : m * n + c % n < top := by unfold top; omega
  have PB := Lib.hid (part_back m n (c % n) hn l0 l1)
  clear mn2
  obtain ⟨pq0, pq2⟩ := prod_bd (1 + a) (1 + b) _ _ (by omega) hp (by omega) hq
  have pqe : IntKind.u64.wrap ((1 + a) * (1 + b)) = (1 + a) * (1 + b) := by rw [IntKind.wrap_u64]; omega
  have pq4 : 0 < (1 + a) * (1 + b) := Int.mul_pos (by omega) (by omega)
  obtain ⟨PQ, hPQ⟩ : ∃ PQ, IntKind.u64.wrap ((1 + a) * (1 + b)) = PQ := ⟨_, rfl⟩
  have PE : Hid ((1 + a) * (1 + b) = PQ) := Lib.hid (by rw [← hPQ, pqe])
  have pq3 : 0 < PQ := by rw [← PE.out]; exact pq4
  have pq1 : PQ < 18446744073709551616 := by rw [← PE.out]; omega
  have DD : Hid (wn xh xl / (1 + a) / (1 + b) = wn xh xl / PQ) := Lib.hid (by rw [← PE.out]; exact Int.ediv_ediv_of_nonneg (by omega))
  clear pq2 pqe pq4 pq0
  go_enter Try.func9, Try.ntmps9
  go_wp2_with fail
  (with_reducible refine (shown_any _).mono ?_)
  rintro e w1 ⟨rfl, hb1⟩
  obtain ⟨cx0, cx1, lcx, B1⟩ := boxesP hb1
  clear hb1
  go_wp2_with fail
  (with_reducible refine (div_yes xh xl (1 + a) _ xl0 xl1 xh0 xh1 (by omega) (by omega)).mono ?_)
  rintro e w2 ⟨rfl, hb2⟩
  have g2 := sizeB hb2
  have B2 := stepC B1 hb2
  replace cx0 := keep hb2 (by omega) cx0
  replace cx1 := keep hb2 (by omega) cx1
  replace lcx : w.heap.size + 1 < w2.heap.size := by omega
  clear hb2 g2 B1
  go_wp2_with fail
  (with_reducible refine (div_yes (hi (wn xh xl / (1 + a))) (lo (wn xh xl / (1 + a))) (1 + b) _ (lo_bd _).1 (lo_bd _).2 (hi_bd _ d0 d1).1 (hi_bd _ d0 d1).2 (by omega) (by omega)).mono ?_)
  rw [wn_hi_lo]
  rintro e w3 ⟨rfl, hb3⟩
  have g3 := growA hb3
  have B3 := stepA B2 hb3
  replace cx0 := keepA hb3 (by omega) cx0
  replace cx1 := keepA hb3 (by omega) cx1
  replace lcx : w.heap.size + 1 < w3.heap.size := by omega
  clear hb3 g3 B2
  go_wp2_with fail
  (with_reducible refine (div_yes xh xl PQ _ xl0 xl1 xh0 xh1 pq3 pq1).mono ?_)
  rw [← DD.out]
  rintro e w4 ⟨rfl, hb4⟩
  have g4 := growA hb4
  have B4 := stepA B3 hb4
  replace cx0 := keepA hb4 (by omega) cx0
  replace cx1 := keepA hb4 (by omega) cx1
  replace lcx : w.heap.size + 1 < w4.heap.size := by omega
  obtain ⟨cz0, cz1⟩ := own2 hb4
  have lcz : w3.heap.size < w4.heap.size := g4
  clear hb4 g4 B3
  go_wp2_with fail
  (with_reducible refine (mul_any m n _ m0 m1 n0 n1).mono ?_)
  rintro e w5 ⟨rfl, hb5⟩
  have g5 := growA hb5
  have B5 := stepA B4 hb5
  replace cx0 := keepA hb5 (by omega) cx0
  replace cx1 := keepA hb5 (by omega) cx1
  replace cz0 := keepA hb5 (by omega) cz0
  replace cz1 := keepA hb5 (by omega) cz1
  replace lcx : w.heap.size + 1 < w5.heap.size := by omega
  replace lcz : w3.heap.size < w5.heap.size := by omega
  clear hb5 g5 B4
  go_wp2_with fail
  (with_reducible refine (of_any (c % n) _).mono ?_)
  rintro e w6 ⟨rfl, hb6⟩
  have g6 := sizeB hb6
  have B6 := stepC B5 hb6
  replace cx0 := keep hb6 (by omega) cx0
  replace cx1 := keep hb6 (by omega) cx1
  replace cz0 := keep hb6 (by omega) cz0
  replace cz1 := keep hb6 (by omega) cz1
  replace lcx : w.heap.size + 1 < w6.heap.size := by omega
  replace lcz : w3.heap.size < w6.heap.size := by omega
  clear hb6 g6 B5
  go_wp2_with fail
  (with_reducible refine (add_yes (hi (m * n)) (lo (m * n)) 0 (c % n) _ (lo_bd _).1 (lo_bd _).2 (hi_bd _ mn0 mn1).1 (hi_bd _ mn0 mn1).2 l0 (by omega) (by decide) (by decide) (by rw [wn_hi_lo, wn0]; exact sm1)).mono ?_)
  rw [wn_hi_lo, wn0]
  rintro e w7 ⟨rfl, hb7⟩
  have g7 := sizeB hb7
  have B7 := stepC B6 hb7
  replace cx0 := keep hb7 (by omega) cx0
  replace cx1 := keep hb7 (by omega) cx1
  replace cz0 := keep hb7 (by omega) cz0
  replace cz1 := keep hb7 (by omega) cz1
  replace lcx : w.heap.size + 1 < w7.heap.size := by omega
  replace lcz : w3.heap.size < w7.heap.size := by omega
  clear hb7 g7 B6
  go_wp2_with fail
  (with_reducible refine (div_yes (hi (m * n + c % n)) (lo (m * n + c % n)) n _ (lo_bd _).1 (lo_bd _).2 (hi_bd _ sm0 sm1).1 (hi_bd _ sm0 sm1).2 hn n1).mono ?_)
  rw [wn_hi_lo, PB.out.1, PB.out.2, hi_small m m0 m1, lo_small m m0 m1]
  rintro e w8 ⟨rfl, hb8⟩
  have g8 := growA hb8
  have B8 := stepA B7 hb8
  replace cx0 := keepA hb8 (by omega) cx0
  replace cx1 := keepA hb8 (by omega) cx1
  replace cz0 := keepA hb8 (by omega) cz0
  replace cz1 := keepA hb8 (by omega) cz1
  replace lcx : w.heap.size + 1 < w8.heap.size := by omega
  replace lcz : w3.heap.size < w8.heap.size := by omega
  clear hb8 g8 B7
  go_wp2_with fail
  have HS := Lib.hid (two_drew (two_new (v0 := .int .u64 0) (v1 := .int .u64 m) (t := 24) cx0 cx1 lcx B8))
  go_region_held3 (fun w' => w'.cell? ⟨w.heap.size + 1, 0, none⟩ = some (.int .u64 xh) ∧ w'.cell? ⟨w.heap.size + 1, 1, none⟩ = some (.int .u64 xl) ∧ w'.cell? ⟨w8.heap.size, 0, none⟩ = some (.int .u64 0) ∧ w'.cell? ⟨w8.heap.size, 1, none⟩ = some (.int .u64 m) ∧
      w.heap.size + 1 < w'.heap.size ∧ w8.heap.size < w'.heap.size ∧ Below w.heap.size w w') (first | exact HS.out | (refine two_kept ?_ hb; assumption))
    (first | (go_at_call 21; refine (of_any _ _).mono ?_; rintro e w' ⟨rfl, hb⟩))
  go_wp2_with fail
  go_ret
  exact ⟨rfl, two_last (by assumption)⟩

set_option maxHeartbeats 4000000 in
set_option maxRecDepth 100000 in
theorem parts_small_z (xh xl a b m n c : Int) (w : World) (xh0 : 0 ≤ xh) (xh1 : xh < 18446744073709551616) (xl0 : 0 ≤ xl) (xl1 : xl < 18446744073709551616) (a0 : 0 ≤ a) (a1 : a < 4294967296) (b0 : 0 ≤ b) (b1 : b < 4294967296)
    (m0 : 0 ≤ m) (m1 : m < 18446744073709551616) (n0 : 0 ≤ n) (n1 : n < 18446744073709551616) (c0 : 0 ≤ c) (c1 : c < 18446744073709551616) (hp : 1 + a ≤ 2147483648) (hq : 1 + b ≤ 2147483648) (hn : n = 0) :
    Calls Try.prog 9 #[.agg #[.int .u64 xh, .int .u64 xl, .int .u32 a, .int .u32 b, .int .u64 m, .int .u64 n, .int .u64 c]] w fun e w' => e = .returned (.bool true) ∧ Below w.heap.size w w' := by
  obtain ⟨X0, X1⟩ := wn_bd xh xl xh0 xh1 xl0 xl1
  have d0 : 0 ≤ wn xh xl / (1 + a) := Int.ediv_nonneg X0 (by omega)
  have d1 : wn xh xl / (1 + a) < top := by have := Int.ediv_le_self (1 + a) X0; omega
  subst hn
  obtain ⟨pq0, pq2⟩ := prod_bd (1 + a) (1 + b) _ _ (by omega) hp (by omega) hq
  have pqe : IntKind.u64.wrap ((1 + a) * (1 + b)) = (1 + a) * (1 + b) := by rw [IntKind.wrap_u64]; omega
  have pq4 : 0 < (1 + a) * (1 + b) := Int.mul_pos (by omega) (by omega)
  obtain ⟨PQ, hPQ⟩ : ∃ PQ, IntKind.u64.wrap ((1 + a) * (1 + b)) = PQ := ⟨_, rfl⟩
  have PE : Hid ((1 + a) * (1 + b) = PQ) := Lib.hid (by rw [← hPQ, pqe])
  have pq3 : 0 < PQ := by rw [← PE.out]; exact pq4
  have pq1 : PQ < 18446744073709551616 := by rw [← PE.out]; omega
  have DD : Hid (wn xh xl / (1 + a) / (1 + b) = wn xh xl / PQ) := Lib.hid (by rw [← PE.out]; exact Int.ediv_ediv_of_nonneg (by omega))
  clear pq2 pqe pq4 pq0
  go_enter Try.func9, Try.ntmps9
  go_wp2_with fail
  (with_reducible refine (shown_any _).mono ?_)
  rintro e w1 ⟨rfl, hb1⟩
  obtain ⟨cx0, cx1, lcx, B1⟩ := boxesP hb1
  clear hb1
  go_wp2_with fail
  (with_reducible refine (div_yes xh xl (1 + a) _ xl0 xl1 xh0 xh1 (by omega) (by omega)).mono ?_)
  rintro e w2 ⟨rfl, hb2⟩
  have g2 := sizeB hb2
  have B2 := stepC B1 hb2
  replace cx0 := keep hb2 (by omega) cx0
  replace cx1 := keep hb2 (by omega) cx1
  replace lcx : w.heap.size + 1 < w2.heap.size := by omega
  clear hb2 g2 B1
  go_wp2_with fail
  (with_reducible refine (div_yes (hi (wn xh xl / (1 + a))) (lo (wn xh xl / (1 + a))) (1 + b) _ (lo_bd _).1 (lo_bd _).2 (hi_bd _ d0 d1).1 (hi_bd _ d0 d1).2 (by omega) (by omega)).mono ?_)
  rw [wn_hi_lo]
  rintro e w3 ⟨rfl, hb3⟩
  have g3 := growA hb3
  have B3 := stepA B2 hb3
  replace cx0 := keepA hb3 (by omega) cx0
  replace cx1 := keepA hb3 (by omega) cx1
  replace lcx : w.heap.size + 1 < w3.heap.size := by omega
  clear hb3 g3 B2
  go_wp2_with fail
  (with_reducible refine (div_yes xh xl PQ _ xl0 xl1 xh0 xh1 pq3 pq1).mono ?_)
  rw [← DD.out]
  rintro e w4 ⟨rfl, hb4⟩
  have g4 := growA hb4
  have B4 := stepA B3 hb4
  replace cx0 := keepA hb4 (by omega) cx0
  replace cx1 := keepA hb4 (by omega) cx1
  replace lcx : w.heap.size + 1 < w4.heap.size := by omega
  obtain ⟨cz0, cz1⟩ := own2 hb4
  have lcz : w3.heap.size < w4.heap.size := g4
  clear hb4 g4 B3
  go_wp2_with fail
  go_ret
  exact ⟨rfl, B4.alloc B4.size _⟩

set_option maxHeartbeats 4000000 in
set_option maxRecDepth 100000 in
theorem parts_gp_n (xh xl a b m n c : Int) (w : World) (xh0 : 0 ≤ xh) (xh1 : xh < 18446744073709551616) (xl0 : 0 ≤ xl) (xl1 : xl < 18446744073709551616) (a0 : 0 ≤ a) (a1 : a < 4294967296) (b0 : 0 ≤ b) (b1 : b < 4294967296)
    (m0 : 0 ≤ m) (m1 : m < 18446744073709551616) (n0 : 0 ≤ n) (n1 : n < 18446744073709551616) (c0 : 0 ≤ c) (c1 : c < 18446744073709551616) (hp : ¬ 1 + a ≤ 2147483648) (hn : 0 < n) :
    Calls Try.prog 9 #[.agg #[.int .u64 xh, .int .u64 xl, .int .u32 a, .int .u32 b, .int .u64 m, .int .u64 n, .int .u64 c]] w fun e w' => e = .returned (.bool true) ∧ Below w.heap.size w w' := by
  obtain ⟨X0, X1⟩ := wn_bd xh xl xh0 xh1 xl0 xl1
  have d0 : 0 ≤ wn xh xl / (1 + a) := Int.ediv_nonneg X0 (by omega)
  have d1 : wn xh xl / (1 + a) < top := by have := Int.ediv_le_self (1 + a) X0; omega
  have t1 : (n == 0) = false := beq_eq_false_iff_ne.2 (by omega)
  have t2 : ¬ n = 0 := by omega
  have l0 : 0 ≤ c % n := Int.emod_nonneg _ (by omega)
  have l1 : c % n < n := Int.emod_lt_of_pos _ hn
  obtain ⟨mn0, mn2⟩ := prod_bd m n _ _ m0 (show m ≤ 18446744073709551615 by omega) n0 (show n ≤ 18446744073709551615 by omega)
  have mn1 : m * n < top := by unfold top; omega
  have sm0 : 0 ≤ m * n + c % n := by omega
  have sm1 : m * n + c % n < top := by unfold top; omega
  have PB := Lib.hid (part_back m n (c % n) hn l0 l1)
  clear mn2
  go_enter Try.func9, Try.ntmps9
  go_wp2_with fail
  (with_reducible refine (shown_any _).mono ?_)
  rintro e w1 ⟨rfl, hb1⟩
  obtain ⟨cx0, cx1, lcx, B1⟩ := boxesP hb1
  clear hb1
  go_wp2_with fail
  (with_reducible refine (div_yes xh xl (1 + a) _ xl0 xl1 xh0 xh1 (by omega) (by omega)).mono ?_)
  rintro e w2 ⟨rfl, hb2⟩
  have g2 := sizeB hb2
  have B2 := stepC B1 hb2
  replace cx0 := keep hb2 (by omega) cx0
  replace cx1 := keep hb2 (by omega) cx1
  replace lcx : w.heap.size + 1 < w2.heap.size := by omega
  clear hb2 g2 B1
  go_wp2_with fail
  (with_reducible refine (div_yes (hi (wn xh xl / (1 + a))) (lo (wn xh xl / (1 + a))) (1 + b) _ (lo_bd _).1 (lo_bd _).2 (hi_bd _ d0 d1).1 (hi_bd _ d0 d1).2 (by omega) (by omega)).mono ?_)
  rw [wn_hi_lo]
  rintro e w3 ⟨rfl, hb3⟩
  have g3 := growA hb3
  have B3 := stepA B2 hb3
  replace cx0 := keepA hb3 (by omega) cx0
  replace cx1 := keepA hb3 (by omega) cx1
  replace lcx : w.heap.size + 1 < w3.heap.size := by omega
  clear hb3 g3 B2
  go_wp2_with fail
  (with_reducible refine (mul_any m n _ m0 m1 n0 n1).mono ?_)
  rintro e w4 ⟨rfl, hb4⟩
  have g4 := growA hb4
  have B4 := stepA B3 hb4
  replace cx0 := keepA hb4 (by omega) cx0
  replace cx1 := keepA hb4 (by omega) cx1
  replace lcx : w.heap.size + 1 < w4.heap.size := by omega
  clear hb4 g4 B3
  go_wp2_with fail
  (with_reducible refine (of_any (c % n) _).mono ?_)
  rintro e w5 ⟨rfl, hb5⟩
  have g5 := sizeB hb5
  have B5 := stepC B4 hb5
  replace cx0 := keep hb5 (by omega) cx0
  replace cx1 := keep hb5 (by omega) cx1
  replace lcx : w.heap.size + 1 < w5.heap.size := by omega
  clear hb5 g5 B4
  go_wp2_with fail
  (with_reducible refine (add_yes (hi (m * n)) (lo (m * n)) 0 (c % n) _ (lo_bd _).1 (lo_bd _).2 (hi_bd _ mn0 mn1).1 (hi_bd _ mn0 mn1).2 l0 (by omega) (by decide) (by decide) (by rw [wn_hi_lo, wn0]; exact sm1)).mono ?_)
  rw [wn_hi_lo, wn0]
  rintro e w6 ⟨rfl, hb6⟩
  have g6 := sizeB hb6
  have B6 := stepC B5 hb6
  replace cx0 := keep hb6 (by omega) cx0
  replace cx1 := keep hb6 (by omega) cx1
  replace lcx : w.heap.size + 1 < w6.heap.size := by omega
  clear hb6 g6 B5
  go_wp2_with fail
  (with_reducible refine (div_yes (hi (m * n + c % n)) (lo (m * n + c % n)) n _ (lo_bd _).1 (lo_bd _).2 (hi_bd _ sm0 sm1).1 (hi_bd _ sm0 sm1).2 hn n1).mono ?_)
  rw [wn_hi_lo, PB.out.1, PB.out.2, hi_small m m0 m1, lo_small m m0 m1]
  rintro e w7 ⟨rfl, hb7⟩
  have g7 := growA hb7
  have B7 := stepA B6 hb7
  replace cx0 := keepA hb7 (by omega) cx0
  replace cx1 := keepA hb7 (by omega) cx1
  replace lcx : w.heap.size + 1 < w7.heap.size := by omega
  clear hb7 g7 B6
  go_wp2_with fail
  have HS := Lib.hid (two_drew (two_new (v0 := .int .u64 0) (v1 := .int .u64 m) (t := 24) cx0 cx1 lcx B7))
  go_region_held3 (fun w' => w'.cell? ⟨w.heap.size + 1, 0, none⟩ = some (.int .u64 xh) ∧ w'.cell? ⟨w.heap.size + 1, 1, none⟩ = some (.int .u64 xl) ∧ w'.cell? ⟨w7.heap.size, 0, none⟩ = some (.int .u64 0) ∧ w'.cell? ⟨w7.heap.size, 1, none⟩ = some (.int .u64 m) ∧
      w.heap.size + 1 < w'.heap.size ∧ w7.heap.size < w'.heap.size ∧ Below w.heap.size w w') (first | exact HS.out | (refine two_kept ?_ hb; assumption))
    (first | (go_at_call 21; refine (of_any _ _).mono ?_; rintro e w' ⟨rfl, hb⟩))
  go_wp2_with fail
  go_ret
  exact ⟨rfl, two_last (by assumption)⟩

set_option maxHeartbeats 4000000 in
set_option maxRecDepth 100000 in
theorem parts_gp_z (xh xl a b m n c : Int) (w : World) (xh0 : 0 ≤ xh) (xh1 : xh < 18446744073709551616) (xl0 : 0 ≤ xl) (xl1 : xl < 18446744073709551616) (a0 : 0 ≤ a) (a1 : a < 4294967296) (b0 : 0 ≤ b) (b1 : b < 4294967296)
    (m0 : 0 ≤ m) (m1 : m < 18446744073709551616) (n0 : 0 ≤ n) (n1 : n < 18446744073709551616) (c0 : 0 ≤ c) (c1 : c < 18446744073709551616) (hp : ¬ 1 + a ≤ 2147483648) (hn : n = 0) :
    Calls Try.prog 9 #[.agg #[.int .u64 xh, .int .u64 xl, .int .u32 a, .int .u32 b, .int .u64 m, .int .u64 n, .int .u64 c]] w fun e w' => e = .returned (.bool true) ∧ Below w.heap.size w w' := by
  obtain ⟨X0, X1⟩ := wn_bd xh xl xh0 xh1 xl0 xl1
  have d0 : 0 ≤ wn xh xl / (1 + a) := Int.ediv_nonneg X0 (by omega)
  have d1 : wn xh xl / (1 + a) < top := by have := Int.ediv_le_self (1 + a) X0; omega
  subst hn
  go_enter Try.func9, Try.ntmps9
  go_wp2_with fail
  (with_reducible refine (shown_any _).mono ?_)
  rintro e w1 ⟨rfl, hb1⟩
  obtain ⟨cx0, cx1, lcx, B1⟩ := boxesP hb1
  clear hb1
  go_wp2_with fail
  (with_reducible refine (div_yes xh xl (1 + a) _ xl0 xl1 xh0 xh1 (by omega) (by omega)).mono ?_)
  rintro e w2 ⟨rfl, hb2⟩
  have g2 := sizeB hb2
  have B2 := stepC B1 hb2
  replace cx0 := keep hb2 (by omega) cx0
  replace cx1 := keep hb2 (by omega) cx1
  replace lcx : w.heap.size + 1 < w2.heap.size := by omega
  clear hb2 g2 B1
  go_wp2_with fail
  (with_reducible refine (div_yes (hi (wn xh xl / (1 + a))) (lo (wn xh xl / (1 + a))) (1 + b) _ (lo_bd _).1 (lo_bd _).2 (hi_bd _ d0 d1).1 (hi_bd _ d0 d1).2 (by omega) (by omega)).mono ?_)
  rw [wn_hi_lo]
  rintro e w3 ⟨rfl, hb3⟩
  have g3 := growA hb3
  have B3 := stepA B2 hb3
  replace cx0 := keepA hb3 (by omega) cx0
  replace cx1 := keepA hb3 (by omega) cx1
  replace lcx : w.heap.size + 1 < w3.heap.size := by omega
  clear hb3 g3 B2
  go_wp2_with fail
  go_ret
  exact ⟨rfl, B3.alloc B3.size _⟩

set_option maxHeartbeats 4000000 in
set_option maxRecDepth 100000 in
theorem parts_gq_n (xh xl a b m n c : Int) (w : World) (xh0 : 0 ≤ xh) (xh1 : xh < 18446744073709551616) (xl0 : 0 ≤ xl) (xl1 : xl < 18446744073709551616) (a0 : 0 ≤ a) (a1 : a < 4294967296) (b0 : 0 ≤ b) (b1 : b < 4294967296)
    (m0 : 0 ≤ m) (m1 : m < 18446744073709551616) (n0 : 0 ≤ n) (n1 : n < 18446744073709551616) (c0 : 0 ≤ c) (c1 : c < 18446744073709551616) (hp : 1 + a ≤ 2147483648) (hq : ¬ 1 + b ≤ 2147483648) (hn : 0 < n) :
    Calls Try.prog 9 #[.agg #[.int .u64 xh, .int .u64 xl, .int .u32 a, .int .u32 b, .int .u64 m, .int .u64 n, .int .u64 c]] w fun e w' => e = .returned (.bool true) ∧ Below w.heap.size w w' := by
  obtain ⟨X0, X1⟩ := wn_bd xh xl xh0 xh1 xl0 xl1
  have d0 : 0 ≤ wn xh xl / (1 + a) := Int.ediv_nonneg X0 (by omega)
  have d1 : wn xh xl / (1 + a) < top := by have := Int.ediv_le_self (1 + a) X0; omega
  have t1 : (n == 0) = false := beq_eq_false_iff_ne.2 (by omega)
  have t2 : ¬ n = 0 := by omega
  have l0 : 0 ≤ c % n := Int.emod_nonneg _ (by omega)
  have l1 : c % n < n := Int.emod_lt_of_pos _ hn
  obtain ⟨mn0, mn2⟩ := prod_bd m n _ _ m0 (show m ≤ 18446744073709551615 by omega) n0 (show n ≤ 18446744073709551615 by omega)
  have mn1 : m * n < top := by unfold top; omega
  have sm0 : 0 ≤ m * n + c % n := by omega
  have sm1 : m * n + c % n < top := by unfold top; omega
  have PB := Lib.hid (part_back m n (c % n) hn l0 l1)
  clear mn2
  go_enter Try.func9, Try.ntmps9
  go_wp2_with fail
  (with_reducible refine (shown_any _).mono ?_)
  rintro e w1 ⟨rfl, hb1⟩
  obtain ⟨cx0, cx1, lcx, B1⟩ := boxesP hb1
  clear hb1
  go_wp2_with fail
  (with_reducible refine (div_yes xh xl (1 + a) _ xl0 xl1 xh0 xh1 (by omega) (by omega)).mono ?_)
  rintro e w2 ⟨rfl, hb2⟩
  have g2 := sizeB hb2
  have B2 := stepC B1 hb2
  replace cx0 := keep hb2 (by omega) cx0
  replace cx1 := keep hb2 (by omega) cx1
  replace lcx : w.heap.size + 1 < w2.heap.size := by omega
  clear hb2 g2 B1
  go_wp2_with fail
  (with_reducible refine (div_yes (hi (wn xh xl / (1 + a))) (lo (wn xh xl / (1 + a))) (1 + b) _ (lo_bd _).1 (lo_bd _).2 (hi_bd _ d0 d1).1 (hi_bd _ d0 d1).2 (by omega) (by omega)).mono ?_)
  rw [wn_hi_lo]
  rintro e w3 ⟨rfl, hb3⟩
  have g3 := growA hb3
  have B3 := stepA B2 hb3
  replace cx0 := keepA hb3 (by omega) cx0
  replace cx1 := keepA hb3 (by omega) cx1
  replace lcx : w.heap.size + 1 < w3.heap.size := by omega
  clear hb3 g3 B2
  go_wp2_with fail
  (with_reducible refine (mul_any m n _ m0 m1 n0 n1).mono ?_)
  rintro e w4 ⟨rfl, hb4⟩
  have g4 := growA hb4
  have B4 := stepA B3 hb4
  replace cx0 := keepA hb4 (by omega) cx0
  replace cx1 := keepA hb4 (by omega) cx1
  replace lcx : w.heap.size + 1 < w4.heap.size := by omega
  clear hb4 g4 B3
  go_wp2_with fail
  (with_reducible refine (of_any (c % n) _).mono ?_)
  rintro e w5 ⟨rfl, hb5⟩
  have g5 := sizeB hb5
  have B5 := stepC B4 hb5
  replace cx0 := keep hb5 (by omega) cx0
  replace cx1 := keep hb5 (by omega) cx1
  replace lcx : w.heap.size + 1 < w5.heap.size := by omega
  clear hb5 g5 B4
  go_wp2_with fail
  (with_reducible refine (add_yes (hi (m * n)) (lo (m * n)) 0 (c % n) _ (lo_bd _).1 (lo_bd _).2 (hi_bd _ mn0 mn1).1 (hi_bd _ mn0 mn1).2 l0 (by omega) (by decide) (by decide) (by rw [wn_hi_lo, wn0]; exact sm1)).mono ?_)
  rw [wn_hi_lo, wn0]
  rintro e w6 ⟨rfl, hb6⟩
  have g6 := sizeB hb6
  have B6 := stepC B5 hb6
  replace cx0 := keep hb6 (by omega) cx0
  replace cx1 := keep hb6 (by omega) cx1
  replace lcx : w.heap.size + 1 < w6.heap.size := by omega
  clear hb6 g6 B5
  go_wp2_with fail
  (with_reducible refine (div_yes (hi (m * n + c % n)) (lo (m * n + c % n)) n _ (lo_bd _).1 (lo_bd _).2 (hi_bd _ sm0 sm1).1 (hi_bd _ sm0 sm1).2 hn n1).mono ?_)
  rw [wn_hi_lo, PB.out.1, PB.out.2, hi_small m m0 m1, lo_small m m0 m1]
  rintro e w7 ⟨rfl, hb7⟩
  have g7 := growA hb7
  have B7 := stepA B6 hb7
  replace cx0 := keepA hb7 (by omega) cx0
  replace cx1 := keepA hb7 (by omega) cx1
  replace lcx : w.heap.size + 1 < w7.heap.size := by omega
  clear hb7 g7 B6
  go_wp2_with fail
  have HS := Lib.hid (two_drew (two_new (v0 := .int .u64 0) (v1 := .int .u64 m) (t := 24) cx0 cx1 lcx B7))
  go_region_held3 (fun w' => w'.cell? ⟨w.heap.size + 1, 0, none⟩ = some (.int .u64 xh) ∧ w'.cell? ⟨w.heap.size + 1, 1, none⟩ = some (.int .u64 xl) ∧ w'.cell? ⟨w7.heap.size, 0, none⟩ = some (.int .u64 0) ∧ w'.cell? ⟨w7.heap.size, 1, none⟩ = some (.int .u64 m) ∧
      w.heap.size + 1 < w'.heap.size ∧ w7.heap.size < w'.heap.size ∧ Below w.heap.size w w') (first | exact HS.out | (refine two_kept ?_ hb; assumption))
    (first | (go_at_call 21; refine (of_any _ _).mono ?_; rintro e w' ⟨rfl, hb⟩))
  go_wp2_with fail
  go_ret
  exact ⟨rfl, two_last (by assumption)⟩

set_option maxHeartbeats 4000000 in
set_option maxRecDepth 100000 in
theorem parts_gq_z (xh xl a b m n c : Int) (w : World) (xh0 : 0 ≤ xh) (xh1 : xh < 18446744073709551616) (xl0 : 0 ≤ xl) (xl1 : xl < 18446744073709551616) (a0 : 0 ≤ a) (a1 : a < 4294967296) (b0 : 0 ≤ b) (b1 : b < 4294967296)
    (m0 : 0 ≤ m) (m1 : m < 18446744073709551616) (n0 : 0 ≤ n) (n1 : n < 18446744073709551616) (c0 : 0 ≤ c) (c1 : c < 18446744073709551616) (hp : 1 + a ≤ 2147483648) (hq : ¬ 1 + b ≤ 2147483648) (hn : n = 0) :
    Calls Try.prog 9 #[.agg #[.int .u64 xh, .int .u64 xl, .int .u32 a, .int .u32 b, .int .u64 m, .int .u64 n, .int .u64 c]] w fun e w' => e = .returned (.bool true) ∧ Below w.heap.size w w' := by
  obtain ⟨X0, X1⟩ := wn_bd xh xl xh0 xh1 xl0 xl1
  have d0 : 0 ≤ wn xh xl / (1 + a) := Int.ediv_nonneg X0 (by omega)
  have d1 : wn xh xl / (1 + a) < top := by have := Int.ediv_le_self (1 + a) X0; omega
  subst hn
  go_enter Try.func9, Try.ntmps9
  go_wp2_with fail
  (with_reducible refine (shown_any _).mono ?_)
  rintro e w1 ⟨rfl, hb1⟩
  obtain ⟨cx0, cx1, lcx, B1⟩ := boxesP hb1
  clear hb1
  go_wp2_with fail
  (with_reducible refine (div_yes xh xl (1 + a) _ xl0 xl1 xh0 xh1 (by omega) (by omega)).mono ?_)
  rintro e w2 ⟨rfl, hb2⟩
  have g2 := sizeB hb2
  have B2 := stepC B1 hb2
  replace cx0 := keep hb2 (by omega) cx0
  replace cx1 := keep hb2 (by omega) cx1
  replace lcx : w.heap.size + 1 < w2.heap.size := by omega
  clear hb2 g2 B1
  go_wp2_with fail
  (with_reducible refine (div_yes (hi (wn xh xl / (1 + a))) (lo (wn xh xl / (1 + a))) (1 + b) _ (lo_bd _).1 (lo_bd _).2 (hi_bd _ d0 d1).1 (hi_bd _ d0 d1).2 (by omega) (by omega)).mono ?_)
  rw [wn_hi_lo]
  rintro e w3 ⟨rfl, hb3⟩
  have g3 := growA hb3
  have B3 := stepA B2 hb3
  replace cx0 := keepA hb3 (by omega) cx0
  replace cx1 := keepA hb3 (by omega) cx1
  replace lcx : w.heap.size + 1 < w3.heap.size := by omega
  clear hb3 g3 B2
  go_wp2_with fail
  go_ret
  exact ⟨rfl, B3.alloc B3.size _⟩

theorem parts_walk (xh xl a b m n c : Int) (w : World) (xh0 : 0 ≤ xh) (xh1 : xh < 18446744073709551616) (xl0 : 0 ≤ xl) (xl1 : xl < 18446744073709551616) (a0 : 0 ≤ a) (a1 : a < 4294967296) (b0 : 0 ≤ b) (b1 : b < 4294967296)
    (m0 : 0 ≤ m) (m1 : m < 18446744073709551616) (n0 : 0 ≤ n) (n1 : n < 18446744073709551616) (c0 : 0 ≤ c) (c1 : c < 18446744073709551616) :
    Calls Try.prog 9 #[.agg #[.int .u64 xh, .int .u64 xl, .int .u32 a, .int .u32 b, .int .u64 m, .int .u64 n, .int .u64 c]] w fun e w' => e = .returned (.bool true) ∧ Below w.heap.size w w' := by
  by_cases hn : n = 0
  · by_cases hp : 1 + a ≤ 2147483648
    · by_cases hq : 1 + b ≤ 2147483648
      · exact parts_small_z xh xl a b m n c w xh0 xh1 xl0 xl1 a0 a1 b0 b1 m0 m1 n0 n1 c0 c1 hp hq hn
      · exact parts_gq_z xh xl a b m n c w xh0 xh1 xl0 xl1 a0 a1 b0 b1 m0 m1 n0 n1 c0 c1 hp hq hn
    · exact parts_gp_z xh xl a b m n c w xh0 xh1 xl0 xl1 a0 a1 b0 b1 m0 m1 n0 n1 c0 c1 hp hn
  · by_cases hp : 1 + a ≤ 2147483648
    · by_cases hq : 1 + b ≤ 2147483648
      · exact parts_small_n xh xl a b m n c w xh0 xh1 xl0 xl1 a0 a1 b0 b1 m0 m1 n0 n1 c0 c1 hp hq (by omega)
      · exact parts_gq_n xh xl a b m n c w xh0 xh1 xl0 xl1 a0 a1 b0 b1 m0 m1 n0 n1 c0 c1 hp hq (by omega)
    · exact parts_gp_n xh xl a b m n c w xh0 xh1 xl0 xl1 a0 a1 b0 b1 m0 m1 n0 n1 c0 c1 hp (by omega)
end Go.Proofs.Ytcpifgoglcoeeaa
