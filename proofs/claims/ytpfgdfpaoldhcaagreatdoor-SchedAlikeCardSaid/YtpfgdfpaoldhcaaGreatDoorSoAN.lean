/- Several texts in one: RuWays. -/
import Derived.Test.YtpfgdfpaoldhcaaGreatDoorSoAM
set_option maxHeartbeats 8000000
set_option maxRecDepth 100000
set_option linter.unusedVariables false
set_option linter.unusedSimpArgs false
namespace Go.Proofs.YtpfgdfpaoldhcaaGreatDoor
open Go.RowKit
theorem win_any (n lo hi : Int) (w : World) : Calls Tryz.prog 218 #[.int .i64 n, .int .i64 lo, .int .i64 hi] w fun e w' => e = .returned (.bool (decide (lo ≤ n ∧ n ≤ hi))) ∧ w = w' := by
 go_enter Tryz.func218, Tryz.ntmps218
 go_wp2
 all_goals (go_ret; refine ⟨retB ?_, rfl⟩; rw [Bool.eq_iff_iff]; (try simp only [ge_iff_le, Bool.and_eq_true, decide_eq_true_eq, Bool.false_eq_true, false_iff, true_iff]); omega)
theorem zAn (n lo hi : Int) (b : Bool) (w : World) (h : decide (lo ≤ n ∧ n ≤ hi) = b) : Calls Tryz.prog 218 #[.int .i64 n, .int .i64 lo, .int .i64 hi] w fun e w' => e = .returned (.bool b) ∧ w = w' := by
 subst h; exact win_any n lo hi w
theorem len_eq (y m l : Int) (w : World) (hL : Lens w) (h : ln y m = l) : Calls Tryz.prog 167 #[.int .i64 y, .int .i64 m] w fun e w' => e = .returned (.int .i64 l) ∧ w = w' := by
 subst h; exact zBa y m w hL
theorem wk_eq (n k : Int) (w : World) (h : wk n = k) : Calls Tryz.prog 162 #[.int .i64 n] w fun e w' => e = .returned (.int .i64 k) ∧ w = w' := by
 subst h; exact zLu n w
theorem zHa (y m d n : Int) (b : Bool) (w : World) (hL : Lens w) (hb : mb y m d = b) (hn : nN y m d = n) : Calls Tryz.prog 225 #[.int .i64 y, .int .i64 m, .int .i64 d] w fun e w' => e = .returned (.tuple #[.int .i64 n, .bool b]) ∧ Below w.heap.size w w' := by
 cases b
 ·have C := Lib.hid (fun v h => zBp y m d n 3 v h ⟨hn, by unfold nE; rw [hb]; rfl⟩)
  clear hb hn
  go_enter Tryz.func225, Tryz.ntmps225
  go_wp2_with fail
  (with_reducible refine (C.out _ hL).mono ?_)
  rintro e w1 ⟨rfl, hb⟩
  go_wp2
  go_ret2
  exact ⟨rfl, hb⟩
 ·have C := Lib.hid (fun v h => zBp y m d n 0 v h ⟨hn, by unfold nE; rw [hb]; rfl⟩)
  clear hb hn
  go_enter Tryz.func225, Tryz.ntmps225
  go_wp2_with fail
  (with_reducible refine (C.out _ hL).mono ?_)
  rintro e w1 ⟨rfl, hb⟩
  go_wp2
  go_ret2
  exact ⟨rfl, hb⟩
theorem zRi (n k : Int) (b : Bool) (w : World) (hb : decide (1 ≤ n ∧ n ≤ 3652059) = b) (hk : (if b = true then n else 0) = k) : Calls Tryz.prog 212 #[.int .i64 n] w fun e w' => e = .returned (.tuple #[.int .i64 k, .bool b]) ∧ w = w' := by
 have C := Lib.hid (fun v => zAn n 1 3652059 b v hb)
 clear hb
 cases b
 ·obtain rfl : 0 = k := hk
  go_enter Tryz.func212, Tryz.ntmps212
  go_wp2_with fail
  (with_reducible refine (C.out _).mono ?_)
  rintro e w1 ⟨rfl, rfl⟩
  go_wp2
  go_ret2
  exact ⟨rfl, rfl⟩
 ·obtain rfl : n = k := hk
  go_enter Tryz.func212, Tryz.ntmps212
  go_wp2_with fail
  (with_reducible refine (C.out _).mono ?_)
  rintro e w1 ⟨rfl, rfl⟩
  go_wp2
  go_ret2
  exact ⟨rfl, rfl⟩
theorem zRo (n s k : Int) (w : World) (hn : 1 ≤ n ∧ n ≤ 3652059) (hs : 0 ≤ s ∧ s ≤ 2) (hk : shd s n = k) : Calls Tryz.prog 213 #[.int .i64 n, .int .i64 s] w fun e w' => e = .returned (.int .i64 k) ∧ w = w' := by
 obtain ⟨n1, n2⟩ := hn
 obtain ⟨x, hx⟩ : ∃ x, wk n = x := ⟨_, rfl⟩
 have C := Lib.hid (fun v => wk_eq n x v hx)
 unfold shd at hk
 rw [hx] at hk
 clear hx
 have h3 : s = 0 ∨ s = 1 ∨ s = 2 := by omega
 clear hs
 rcases h3 with rfl | rfl | rfl
 ·obtain rfl : n = k := by simpa using hk
  go_enter Tryz.func213, Tryz.ntmps213
  go_wp2
  go_ret
  exact ⟨rfl, rfl⟩
 ·have h5 : x = 5 ∨ x = 6 ∨ (x ≠ 5 ∧ x ≠ 6) := by omega
  rcases h5 with rfl | rfl | ⟨h5, h6⟩
  ·obtain rfl : n - 1 = k := by simpa using hk
   clear hk
   go_enter Tryz.func213, Tryz.ntmps213
   go_wp2_with fail
   (with_reducible refine (C.out _).mono ?_)
   rintro e w1 ⟨rfl, rfl⟩
   go_wp2
   go_ret
   first | exact ⟨rfl, rfl⟩ | exact ⟨retI (by omega), rfl⟩
  ·obtain rfl : n + 1 = k := by simpa using hk
   clear hk
   go_enter Tryz.func213, Tryz.ntmps213
   go_wp2_with fail
   (with_reducible refine (C.out _).mono ?_)
   rintro e w1 ⟨rfl, rfl⟩
   go_wp2
   go_ret
   first | exact ⟨rfl, rfl⟩ | exact ⟨retI (by omega), rfl⟩
  ·obtain rfl : n = k := by simpa [h5, h6] using hk
   have g5 : (x == 5) = false := by simpa using h5
   have g6 : (x == 6) = false := by simpa using h6
   clear hk
   go_enter Tryz.func213, Tryz.ntmps213
   go_wp2_with fail
   (with_reducible refine (C.out _).mono ?_)
   rintro e w1 ⟨rfl, rfl⟩
   go_wp2
   go_ret
   first | exact ⟨rfl, rfl⟩ | exact ⟨retI (by omega), rfl⟩
 ·have h5 : x = 5 ∨ x = 6 ∨ (x ≠ 5 ∧ x ≠ 6) := by omega
  rcases h5 with rfl | rfl | ⟨h5, h6⟩
  ·obtain rfl : n + 2 = k := by simpa using hk
   clear hk
   go_enter Tryz.func213, Tryz.ntmps213
   go_wp2_with fail
   (with_reducible refine (C.out _).mono ?_)
   rintro e w1 ⟨rfl, rfl⟩
   go_wp2
   go_ret
   first | exact ⟨rfl, rfl⟩ | exact ⟨retI (by omega), rfl⟩
  ·obtain rfl : n + 1 = k := by simpa using hk
   clear hk
   go_enter Tryz.func213, Tryz.ntmps213
   go_wp2_with fail
   (with_reducible refine (C.out _).mono ?_)
   rintro e w1 ⟨rfl, rfl⟩
   go_wp2
   go_ret
   first | exact ⟨rfl, rfl⟩ | exact ⟨retI (by omega), rfl⟩
  ·obtain rfl : n = k := by simpa [h5, h6] using hk
   have g5 : (x == 5) = false := by simpa using h5
   have g6 : (x == 6) = false := by simpa using h6
   clear hk
   go_enter Tryz.func213, Tryz.ntmps213
   go_wp2_with fail
   (with_reducible refine (C.out _).mono ?_)
   rintro e w1 ⟨rfl, rfl⟩
   go_wp2
   go_ret
   first | exact ⟨rfl, rfl⟩ | exact ⟨retI (by omega), rfl⟩
theorem zRj (k m d q o s f t y n : Int) (b : Bool) (w : World) (hL : FactsU w) (hb : mb y m d = b) (hn : nN y m d = n) : Calls Tryz.prog 222 #[.agg #[.int .i64 k, .int .i64 m, .int .i64 d, .int .i64 q, .int .i64 o, .int .i64 s, .int .i64 f, .int .i64 t], .int .i64 y] w fun e w' => e = .returned (.tuple #[.int .i64 n, .bool b]) ∧ Below w.heap.size w w' := by
 have hL : Lens w := hL
 have H := (Held.start w).add (f := zA8) hL
 have C := Lib.hid (fun v h => zHa y m d n b v h hb hn)
 clear hb hn hL
 go_enter Tryz.func222, Tryz.ntmps222
 replace H := H.oct (w.heap.size) (.int .i64 k) (.int .i64 m) (.int .i64 d) (.int .i64 q) (.int .i64 o) (.int .i64 s) (.int .i64 f) (.int .i64 t) 266 rfl
 have c0 := H.cell (w.heap.size) 0 (.int .i64 k) i0_
 have c1 := H.cell (w.heap.size) 1 (.int .i64 m) i1_
 have c2 := H.cell (w.heap.size) 2 (.int .i64 d) i2_
 have c3 := H.cell (w.heap.size) 3 (.int .i64 q) i3_
 have c4 := H.cell (w.heap.size) 4 (.int .i64 o) i4_
 have c5 := H.cell (w.heap.size) 5 (.int .i64 s) i5_
 have c6 := H.cell (w.heap.size) 6 (.int .i64 f) i6_
 have c7 := H.cell (w.heap.size) 7 (.int .i64 t) i7_
 have lc := H.lt (w.heap.size) 0 (.int .i64 k) i0_
 go_wp2_with fail
 (with_reducible refine (C.out _ (H.lens i16_)).mono ?_)
 rintro e w1 ⟨rfl, hb⟩
 replace H := H.below hb
 clear hb
 go_wp2
 go_ret2
 exact ⟨rfl, H.old⟩
theorem unth_is (k m d q o s f t y n : Int) (b : Bool) (w : World) (hL : FactsU w) (hm : 1 ≤ m ∧ m ≤ 12) (hd : 0 ≤ d ∧ d ≤ 6) (hq : 1 ≤ q ∧ q ≤ 5) (hy : 1 ≤ y ∧ y ≤ 9999) (hb : mb y m (nthD y m d q) = b) (hn : nN y m (nthD y m d q) = n) : Calls Tryz.prog 223 #[.agg #[.int .i64 k, .int .i64 m, .int .i64 d, .int .i64 q, .int .i64 o, .int .i64 s, .int .i64 f, .int .i64 t], .int .i64 y] w fun e w' => e = .returned (.tuple #[.int .i64 n, .bool b]) ∧ Below w.heap.size w w' := by
 have hL : Lens w := hL
 have H := (Held.start w).add (f := zA8) hL
 have m1 : may y m 1 := ⟨hy.1, hy.2, hm.1, hm.2, by decide, by have := zHx y m hm.1 hm.2; omega⟩
 have e1 := zFu m1
 obtain ⟨A, hA⟩ : ∃ A, nb y m 1 = A := ⟨_, rfl⟩
 have bA := zC8 _ _ _ m1
 obtain ⟨x, hx⟩ : ∃ x, wk A = x := ⟨_, rfl⟩
 have bx : 0 ≤ x ∧ x ≤ 6 := by rw [← hx]; unfold wk; omega
 have hD : nthD y m d q = 1 + (d - x) % 7 + 7 * (q - 1) := by unfold nthD; rw [hA, hx]
 rw [hD] at hb hn
 rw [hA] at e1 bA
 have C1 := Lib.hid (fun v h => zHa y m 1 A true v h ((zEh _ _ _).2 m1) e1.1)
 have C2 := Lib.hid (fun v => wk_eq A x v hx)
 have C3 := Lib.hid (fun v h => zHa y m (1 + (d - x) % 7 + 7 * (q - 1)) n b v h hb hn)
 obtain ⟨d1, d2⟩ := hd
 obtain ⟨q1, q2⟩ := hq
 obtain ⟨x1, x2⟩ := bx
 clear hb hn hL hD hA hx e1 m1
 go_enter Tryz.func223, Tryz.ntmps223
 replace H := H.oct (w.heap.size) (.int .i64 k) (.int .i64 m) (.int .i64 d) (.int .i64 q) (.int .i64 o) (.int .i64 s) (.int .i64 f) (.int .i64 t) 266 rfl
 have c0 := H.cell (w.heap.size) 0 (.int .i64 k) i0_
 have c1 := H.cell (w.heap.size) 1 (.int .i64 m) i1_
 have c2 := H.cell (w.heap.size) 2 (.int .i64 d) i2_
 have c3 := H.cell (w.heap.size) 3 (.int .i64 q) i3_
 have c4 := H.cell (w.heap.size) 4 (.int .i64 o) i4_
 have c5 := H.cell (w.heap.size) 5 (.int .i64 s) i5_
 have c6 := H.cell (w.heap.size) 6 (.int .i64 f) i6_
 have c7 := H.cell (w.heap.size) 7 (.int .i64 t) i7_
 have lc := H.lt (w.heap.size) 0 (.int .i64 k) i0_
 go_wp2_with fail
 (with_reducible refine (C1.out _ (H.lens i16_)).mono ?_)
 rintro e w1 ⟨rfl, hb⟩
 clear c0 c1 c2 c3 c4 c5 c6 c7 lc
 replace H := H.below hb
 clear hb
 have c0 := H.cell (w.heap.size) 0 (.int .i64 k) i0_
 have c1 := H.cell (w.heap.size) 1 (.int .i64 m) i1_
 have c2 := H.cell (w.heap.size) 2 (.int .i64 d) i2_
 have c3 := H.cell (w.heap.size) 3 (.int .i64 q) i3_
 have c4 := H.cell (w.heap.size) 4 (.int .i64 o) i4_
 have c5 := H.cell (w.heap.size) 5 (.int .i64 s) i5_
 have c6 := H.cell (w.heap.size) 6 (.int .i64 f) i6_
 have c7 := H.cell (w.heap.size) 7 (.int .i64 t) i7_
 have lc := H.lt (w.heap.size) 0 (.int .i64 k) i0_
 go_wp2_with fail
 go_quiet (first | (go_at_call 162; with_reducible exact zAu (C2.out _)))
 go_wp2_with fail
 replace H := H.drewN nq
 (with_reducible refine (C3.out _ (H.lens i16_)).mono ?_)
 rintro e w2 ⟨rfl, hb⟩
 replace H := H.below hb
 clear hb
 go_wp2
 go_ret2
 exact ⟨rfl, H.old⟩
theorem ulast_is (k m d q o s f t y n : Int) (b : Bool) (w : World) (hL : FactsU w) (hm : 1 ≤ m ∧ m ≤ 12) (hd : 0 ≤ d ∧ d ≤ 6) (hy : 1 ≤ y ∧ y ≤ 9999) (hb : b = true) (hn : nb y m (zEo y m d) = n) : Calls Tryz.prog 221 #[.agg #[.int .i64 k, .int .i64 m, .int .i64 d, .int .i64 q, .int .i64 o, .int .i64 s, .int .i64 f, .int .i64 t], .int .i64 y] w fun e w' => e = .returned (.tuple #[.int .i64 n, .bool b]) ∧ Below w.heap.size w w' := by
 have hL : Lens w := hL
 have H := (Held.start w).add (f := zA8) hL
 subst hb
 have l28 := zHx y m hm.1 hm.2
 obtain ⟨l, hl⟩ : ∃ l, ln y m = l := ⟨_, rfl⟩
 rw [hl] at l28
 have m1 : may y m l := ⟨hy.1, hy.2, hm.1, hm.2, by omega, by omega⟩
 have e1 := zFu m1
 obtain ⟨A, hA⟩ : ∃ A, nb y m l = A := ⟨_, rfl⟩
 have bA := zC8 _ _ _ m1
 obtain ⟨x, hx⟩ : ∃ x, wk A = x := ⟨_, rfl⟩
 have bx : 0 ≤ x ∧ x ≤ 6 := by rw [← hx]; unfold wk; omega
 have hD : A - (x - d) % 7 = n := by
  have : nb y m (zEo y m d) = nb y m l - (x - d) % 7 := by unfold zEo; rw [hl, hA, hx, ← hA]; unfold nb; omega
  rw [← hn, this, hA]
 rw [hA] at e1 bA
 have C0 := Lib.hid (fun v h => zPb y m l v h hl)
 have C1 := Lib.hid (fun v h => zHa y m l A true v h ((zEh _ _ _).2 m1) e1.1)
 have C2 := Lib.hid (fun v => wk_eq A x v hx)
 obtain ⟨d1, d2⟩ := hd
 obtain ⟨x1, x2⟩ := bx
 have HD := Lib.hid hD
 clear hn hL hD hA hx e1 m1 hl l28
 go_enter Tryz.func221, Tryz.ntmps221
 replace H := (H.oct (w.heap.size) (.int .i64 k) (.int .i64 m) (.int .i64 d) (.int .i64 q) (.int .i64 o) (.int .i64 s) (.int .i64 f) (.int .i64 t) 266 rfl)
 have cr0 := H.cell (w.heap.size) 0 (.int .i64 k) i0_
 have cr1 := H.cell (w.heap.size) 1 (.int .i64 m) i1_
 have cr2 := H.cell (w.heap.size) 2 (.int .i64 d) i2_
 have cr3 := H.cell (w.heap.size) 3 (.int .i64 q) i3_
 have cr4 := H.cell (w.heap.size) 4 (.int .i64 o) i4_
 have cr5 := H.cell (w.heap.size) 5 (.int .i64 s) i5_
 have cr6 := H.cell (w.heap.size) 6 (.int .i64 f) i6_
 have cr7 := H.cell (w.heap.size) 7 (.int .i64 t) i7_
 have lr := H.lt (w.heap.size) 0 (.int .i64 k) i0_
 go_wp2_with fail
 have KS : Hid (∀ w' : World, Held w [.cell (w.heap.size) 0 (.int .i64 k), .cell (w.heap.size) 1 (.int .i64 m), .cell (w.heap.size) 2 (.int .i64 d), .cell (w.heap.size) 3 (.int .i64 q), .cell (w.heap.size) 4 (.int .i64 o), .cell (w.heap.size) 5 (.int .i64 s), .cell (w.heap.size) 6 (.int .i64 f), .cell (w.heap.size) 7 (.int .i64 t), .free (w.heap.size) 0, .free (w.heap.size) 1, .free (w.heap.size) 2, .free (w.heap.size) 3, .free (w.heap.size) 4, .free (w.heap.size) 5, .free (w.heap.size) 6, .free (w.heap.size) 7, zA8] w' → w'.cell? ⟨w.heap.size, 0, none⟩ = some (.int .i64 k) ∧ w'.cell? ⟨w.heap.size, 1, none⟩ = some (.int .i64 m) ∧ w'.cell? ⟨w.heap.size, 2, none⟩ = some (.int .i64 d) ∧ w'.cell? ⟨w.heap.size, 3, none⟩ = some (.int .i64 q) ∧ w'.cell? ⟨w.heap.size, 4, none⟩ = some (.int .i64 o) ∧ w'.cell? ⟨w.heap.size, 5, none⟩ = some (.int .i64 s) ∧ w'.cell? ⟨w.heap.size, 6, none⟩ = some (.int .i64 f) ∧ w'.cell? ⟨w.heap.size, 7, none⟩ = some (.int .i64 t) ∧ Held w [.cell (w.heap.size) 0 (.int .i64 k), .cell (w.heap.size) 1 (.int .i64 m), .cell (w.heap.size) 2 (.int .i64 d), .cell (w.heap.size) 3 (.int .i64 q), .cell (w.heap.size) 4 (.int .i64 o), .cell (w.heap.size) 5 (.int .i64 s), .cell (w.heap.size) 6 (.int .i64 f), .cell (w.heap.size) 7 (.int .i64 t), .free (w.heap.size) 0, .free (w.heap.size) 1, .free (w.heap.size) 2, .free (w.heap.size) 3, .free (w.heap.size) 4, .free (w.heap.size) 5, .free (w.heap.size) 6, .free (w.heap.size) 7, zA8] w') := Lib.hid (fun _ h => ⟨h.cell (w.heap.size) 0 (.int .i64 k) i0_, h.cell (w.heap.size) 1 (.int .i64 m) i1_, h.cell (w.heap.size) 2 (.int .i64 d) i2_, h.cell (w.heap.size) 3 (.int .i64 q) i3_, h.cell (w.heap.size) 4 (.int .i64 o) i4_, h.cell (w.heap.size) 5 (.int .i64 s) i5_, h.cell (w.heap.size) 6 (.int .i64 f) i6_, h.cell (w.heap.size) 7 (.int .i64 t) i7_, h⟩)
 have KH : Hid (∀ w' : World, w'.cell? ⟨w.heap.size, 0, none⟩ = some (.int .i64 k) ∧ w'.cell? ⟨w.heap.size, 1, none⟩ = some (.int .i64 m) ∧ w'.cell? ⟨w.heap.size, 2, none⟩ = some (.int .i64 d) ∧ w'.cell? ⟨w.heap.size, 3, none⟩ = some (.int .i64 q) ∧ w'.cell? ⟨w.heap.size, 4, none⟩ = some (.int .i64 o) ∧ w'.cell? ⟨w.heap.size, 5, none⟩ = some (.int .i64 s) ∧ w'.cell? ⟨w.heap.size, 6, none⟩ = some (.int .i64 f) ∧ w'.cell? ⟨w.heap.size, 7, none⟩ = some (.int .i64 t) ∧ Held w [.cell (w.heap.size) 0 (.int .i64 k), .cell (w.heap.size) 1 (.int .i64 m), .cell (w.heap.size) 2 (.int .i64 d), .cell (w.heap.size) 3 (.int .i64 q), .cell (w.heap.size) 4 (.int .i64 o), .cell (w.heap.size) 5 (.int .i64 s), .cell (w.heap.size) 6 (.int .i64 f), .cell (w.heap.size) 7 (.int .i64 t), .free (w.heap.size) 0, .free (w.heap.size) 1, .free (w.heap.size) 2, .free (w.heap.size) 3, .free (w.heap.size) 4, .free (w.heap.size) 5, .free (w.heap.size) 6, .free (w.heap.size) 7, zA8] w' → Held w [.cell (w.heap.size) 0 (.int .i64 k), .cell (w.heap.size) 1 (.int .i64 m), .cell (w.heap.size) 2 (.int .i64 d), .cell (w.heap.size) 3 (.int .i64 q), .cell (w.heap.size) 4 (.int .i64 o), .cell (w.heap.size) 5 (.int .i64 s), .cell (w.heap.size) 6 (.int .i64 f), .cell (w.heap.size) 7 (.int .i64 t), .free (w.heap.size) 0, .free (w.heap.size) 1, .free (w.heap.size) 2, .free (w.heap.size) 3, .free (w.heap.size) 4, .free (w.heap.size) 5, .free (w.heap.size) 6, .free (w.heap.size) 7, zA8] w') := Lib.hid (fun _ h => h.2.2.2.2.2.2.2.2)
 have KL : Hid (∀ w' : World, w'.cell? ⟨w.heap.size, 0, none⟩ = some (.int .i64 k) ∧ w'.cell? ⟨w.heap.size, 1, none⟩ = some (.int .i64 m) ∧ w'.cell? ⟨w.heap.size, 2, none⟩ = some (.int .i64 d) ∧ w'.cell? ⟨w.heap.size, 3, none⟩ = some (.int .i64 q) ∧ w'.cell? ⟨w.heap.size, 4, none⟩ = some (.int .i64 o) ∧ w'.cell? ⟨w.heap.size, 5, none⟩ = some (.int .i64 s) ∧ w'.cell? ⟨w.heap.size, 6, none⟩ = some (.int .i64 f) ∧ w'.cell? ⟨w.heap.size, 7, none⟩ = some (.int .i64 t) ∧ Held w [.cell (w.heap.size) 0 (.int .i64 k), .cell (w.heap.size) 1 (.int .i64 m), .cell (w.heap.size) 2 (.int .i64 d), .cell (w.heap.size) 3 (.int .i64 q), .cell (w.heap.size) 4 (.int .i64 o), .cell (w.heap.size) 5 (.int .i64 s), .cell (w.heap.size) 6 (.int .i64 f), .cell (w.heap.size) 7 (.int .i64 t), .free (w.heap.size) 0, .free (w.heap.size) 1, .free (w.heap.size) 2, .free (w.heap.size) 3, .free (w.heap.size) 4, .free (w.heap.size) 5, .free (w.heap.size) 6, .free (w.heap.size) 7, zA8] w' → Lens w') := Lib.hid (fun w' h => (KH.out w' h).lens i16_)
 have HS := Lib.hid (KS.out _ H.drew)
 go_region_held3 (fun w' => w'.cell? ⟨w.heap.size, 0, none⟩ = some (.int .i64 k) ∧ w'.cell? ⟨w.heap.size, 1, none⟩ = some (.int .i64 m) ∧ w'.cell? ⟨w.heap.size, 2, none⟩ = some (.int .i64 d) ∧ w'.cell? ⟨w.heap.size, 3, none⟩ = some (.int .i64 q) ∧ w'.cell? ⟨w.heap.size, 4, none⟩ = some (.int .i64 o) ∧ w'.cell? ⟨w.heap.size, 5, none⟩ = some (.int .i64 s) ∧ w'.cell? ⟨w.heap.size, 6, none⟩ = some (.int .i64 f) ∧ w'.cell? ⟨w.heap.size, 7, none⟩ = some (.int .i64 t) ∧ Held w [.cell (w.heap.size) 0 (.int .i64 k), .cell (w.heap.size) 1 (.int .i64 m), .cell (w.heap.size) 2 (.int .i64 d), .cell (w.heap.size) 3 (.int .i64 q), .cell (w.heap.size) 4 (.int .i64 o), .cell (w.heap.size) 5 (.int .i64 s), .cell (w.heap.size) 6 (.int .i64 f), .cell (w.heap.size) 7 (.int .i64 t), .free (w.heap.size) 0, .free (w.heap.size) 1, .free (w.heap.size) 2, .free (w.heap.size) 3, .free (w.heap.size) 4, .free (w.heap.size) 5, .free (w.heap.size) 6, .free (w.heap.size) 7, zA8] w')
  (first | exact HS.out | (refine KS.out _ (Held.below (KH.out _ ?_) hb); assumption) | (refine KS.out _ (Held.alloc (KH.out _ ?_) _); assumption))
  (first
   | (go_at_call 225; (with_reducible refine (C1.out _ (KL.out _ (by assumption))).mono ?_); rintro e w' ⟨rfl, hb⟩)
   | (go_at_call 167; (with_reducible refine (C0.out _ (KL.out _ (by assumption))).mono ?_); rintro e w' ⟨rfl, hb⟩))
 all_goals (have H := KH.out _ (by assumption))
 all_goals clear KS KL KH HS
 all_goals go_wp2_with fail
 all_goals (have c0 := H.cell (w.heap.size) 0 (.int .i64 k) i0_)
 all_goals (have c1 := H.cell (w.heap.size) 1 (.int .i64 m) i1_)
 all_goals (have c2 := H.cell (w.heap.size) 2 (.int .i64 d) i2_)
 all_goals (have c3 := H.cell (w.heap.size) 3 (.int .i64 q) i3_)
 all_goals (have c4 := H.cell (w.heap.size) 4 (.int .i64 o) i4_)
 all_goals (have c5 := H.cell (w.heap.size) 5 (.int .i64 s) i5_)
 all_goals (have c6 := H.cell (w.heap.size) 6 (.int .i64 f) i6_)
 all_goals (have c7 := H.cell (w.heap.size) 7 (.int .i64 t) i7_)
 all_goals (have lc := H.lt (w.heap.size) 0 (.int .i64 k) i0_)
 all_goals go_quiet (first | (go_at_call 162; with_reducible exact zAu (C2.out _)))
 all_goals go_wp2
 all_goals (replace H := H.drewN nq)
 all_goals go_ret2
 all_goals exact ⟨by (rw [HD.out]; rfl), H.old⟩
theorem zNg (k m d q o s f t y n : Int) (b : Bool) (w : World) (hL : FactsU w) (hy : 1 ≤ y ∧ y ≤ 9999) (ho : -100 ≤ o ∧ o ≤ 250) (hb : decide (1 ≤ east y + o ∧ east y + o ≤ 3652059) = b) (hn : (if b = true then east y + o else 0) = n) : Calls Tryz.prog 224 #[.agg #[.int .i64 k, .int .i64 m, .int .i64 d, .int .i64 q, .int .i64 o, .int .i64 s, .int .i64 f, .int .i64 t], .int .i64 y] w fun e w' => e = .returned (.tuple #[.int .i64 n, .bool b]) ∧ Below w.heap.size w w' := by
 have hL : Lens w := hL
 have H := (Held.start w).add (f := zA8) hL
 obtain ⟨E, hE⟩ : ∃ E, east y = E := ⟨_, rfl⟩
 have C1 := Lib.hid (fun v (h : Lens v) => eday_any y E 0 v h (ea_val hy.1 hy.2 hE))
 have bE : 1 ≤ E ∧ E ≤ 4000000 := by
  have a := ea_bd y
  have c := zC8 y 3 1 (zFg y 1 hy.1 hy.2 (by decide) (by decide))
  omega
 rw [hE] at hb hn
 have C2 := Lib.hid (fun v => zRi (E + o) n b v hb hn)
 obtain ⟨o1, o2⟩ := ho
 clear hb hn hL hE
 go_enter Tryz.func224, Tryz.ntmps224
 replace H := H.oct (w.heap.size) (.int .i64 k) (.int .i64 m) (.int .i64 d) (.int .i64 q) (.int .i64 o) (.int .i64 s) (.int .i64 f) (.int .i64 t) 266 rfl
 go_wp2_with fail
 (with_reducible refine (C1.out _ (H.lens i16_)).mono ?_)
 rintro e w1 ⟨rfl, hb⟩
 replace H := H.below hb
 clear hb
 have c0 := H.cell (w.heap.size) 0 (.int .i64 k) i0_
 have c1 := H.cell (w.heap.size) 1 (.int .i64 m) i1_
 have c2 := H.cell (w.heap.size) 2 (.int .i64 d) i2_
 have c3 := H.cell (w.heap.size) 3 (.int .i64 q) i3_
 have c4 := H.cell (w.heap.size) 4 (.int .i64 o) i4_
 have c5 := H.cell (w.heap.size) 5 (.int .i64 s) i5_
 have c6 := H.cell (w.heap.size) 6 (.int .i64 f) i6_
 have c7 := H.cell (w.heap.size) 7 (.int .i64 t) i7_
 have lc := H.lt (w.heap.size) 0 (.int .i64 k) i0_
 go_wp2_with fail
 (with_reducible refine (C2.out _).mono ?_)
 rintro e w2 ⟨rfl, rfl⟩
 go_wp2
 go_ret2
 exact ⟨rfl, H.old⟩
def utl (k : Int) (b : Bool) : Value := if b = true then (if k = 0 then .func (.func 222) #[] #[] else if k = 1 then .func (.func 223) #[] #[] else if k = 2 then .func (.func 221) #[] #[] else .func (.func 224) #[] #[]) else .nilFunc
theorem utell_a (k m d q o s f t : Int) (w : World) (hL : Lens w) (h : decide (0 ≤ s ∧ s ≤ 2) = false) : Calls Tryz.prog 217 #[.agg #[.int .i64 k, .int .i64 m, .int .i64 d, .int .i64 q, .int .i64 o, .int .i64 s, .int .i64 f, .int .i64 t]] w fun e w' => e = .returned (.tuple #[.nilFunc, .bool false]) ∧ Below w.heap.size w w' := by
 have H := (Held.start w).add (f := zA8) hL
 have W1 := Lib.hid (fun v => zAn s 0 2 false v h)
 clear h
 go_enter Tryz.func217, Tryz.ntmps217
 replace H := H.oct (w.heap.size) (.int .i64 k) (.int .i64 m) (.int .i64 d) (.int .i64 q) (.int .i64 o) (.int .i64 s) (.int .i64 f) (.int .i64 t) 76 rfl
 have c0 := H.cell (w.heap.size) 0 (.int .i64 k) i0_
 have c1 := H.cell (w.heap.size) 1 (.int .i64 m) i1_
 have c2 := H.cell (w.heap.size) 2 (.int .i64 d) i2_
 have c3 := H.cell (w.heap.size) 3 (.int .i64 q) i3_
 have c4 := H.cell (w.heap.size) 4 (.int .i64 o) i4_
 have c5 := H.cell (w.heap.size) 5 (.int .i64 s) i5_
 have c6 := H.cell (w.heap.size) 6 (.int .i64 f) i6_
 have c7 := H.cell (w.heap.size) 7 (.int .i64 t) i7_
 have lc := H.lt (w.heap.size) 0 (.int .i64 k) i0_
 go_wp2_with fail
 (with_reducible refine (W1.out _).mono ?_)
 rintro e v ⟨rfl, rfl⟩
 go_wp2
 go_ret2
 exact ⟨rfl, H.old⟩
theorem utell_b (k m d q o s f t : Int) (w : World) (hL : Lens w) (hs : decide (0 ≤ s ∧ s ≤ 2) = true) (h : decide (1 ≤ f ∧ f ≤ t) = false) : Calls Tryz.prog 217 #[.agg #[.int .i64 k, .int .i64 m, .int .i64 d, .int .i64 q, .int .i64 o, .int .i64 s, .int .i64 f, .int .i64 t]] w fun e w' => e = .returned (.tuple #[.nilFunc, .bool false]) ∧ Below w.heap.size w w' := by
 have H := (Held.start w).add (f := zA8) hL
 have W1 := Lib.hid (fun v => zAn s 0 2 true v hs)
 have W2 := Lib.hid (fun v => zAn f 1 t false v h)
 clear h hs
 go_enter Tryz.func217, Tryz.ntmps217
 replace H := H.oct (w.heap.size) (.int .i64 k) (.int .i64 m) (.int .i64 d) (.int .i64 q) (.int .i64 o) (.int .i64 s) (.int .i64 f) (.int .i64 t) 76 rfl
 have c0 := H.cell (w.heap.size) 0 (.int .i64 k) i0_
 have c1 := H.cell (w.heap.size) 1 (.int .i64 m) i1_
 have c2 := H.cell (w.heap.size) 2 (.int .i64 d) i2_
 have c3 := H.cell (w.heap.size) 3 (.int .i64 q) i3_
 have c4 := H.cell (w.heap.size) 4 (.int .i64 o) i4_
 have c5 := H.cell (w.heap.size) 5 (.int .i64 s) i5_
 have c6 := H.cell (w.heap.size) 6 (.int .i64 f) i6_
 have c7 := H.cell (w.heap.size) 7 (.int .i64 t) i7_
 have lc := H.lt (w.heap.size) 0 (.int .i64 k) i0_
 go_wp2_with fail
 (with_reducible refine (W1.out _).mono ?_)
 rintro e v ⟨rfl, rfl⟩
 go_wp2_with fail
 (with_reducible refine (W2.out _).mono ?_)
 rintro e v ⟨rfl, rfl⟩
 go_wp2
 go_ret2
 exact ⟨rfl, H.old⟩
theorem utell_c (k m d q o s f t : Int) (w : World) (hL : Lens w) (hs : decide (0 ≤ s ∧ s ≤ 2) = true) (hf : decide (1 ≤ f ∧ f ≤ t) = true) (h : 9999 < t) : Calls Tryz.prog 217 #[.agg #[.int .i64 k, .int .i64 m, .int .i64 d, .int .i64 q, .int .i64 o, .int .i64 s, .int .i64 f, .int .i64 t]] w fun e w' => e = .returned (.tuple #[.nilFunc, .bool false]) ∧ Below w.heap.size w w' := by
 have H := (Held.start w).add (f := zA8) hL
 have W1 := Lib.hid (fun v => zAn s 0 2 true v hs)
 have W2 := Lib.hid (fun v => zAn f 1 t true v hf)
 clear hf hs
 go_enter Tryz.func217, Tryz.ntmps217
 replace H := H.oct (w.heap.size) (.int .i64 k) (.int .i64 m) (.int .i64 d) (.int .i64 q) (.int .i64 o) (.int .i64 s) (.int .i64 f) (.int .i64 t) 76 rfl
 have c0 := H.cell (w.heap.size) 0 (.int .i64 k) i0_
 have c1 := H.cell (w.heap.size) 1 (.int .i64 m) i1_
 have c2 := H.cell (w.heap.size) 2 (.int .i64 d) i2_
 have c3 := H.cell (w.heap.size) 3 (.int .i64 q) i3_
 have c4 := H.cell (w.heap.size) 4 (.int .i64 o) i4_
 have c5 := H.cell (w.heap.size) 5 (.int .i64 s) i5_
 have c6 := H.cell (w.heap.size) 6 (.int .i64 f) i6_
 have c7 := H.cell (w.heap.size) 7 (.int .i64 t) i7_
 have lc := H.lt (w.heap.size) 0 (.int .i64 k) i0_
 go_wp2_with fail
 (with_reducible refine (W1.out _).mono ?_)
 rintro e v ⟨rfl, rfl⟩
 go_wp2_with fail
 (with_reducible refine (W2.out _).mono ?_)
 rintro e v ⟨rfl, rfl⟩
 go_wp2
 go_ret2
 exact ⟨rfl, H.old⟩
theorem utell_x (k m d q o s f t : Int) (w : World) (hL : Lens w) (hs : decide (0 ≤ s ∧ s ≤ 2) = true) (hf : decide (1 ≤ f ∧ f ≤ t) = true) (h9 : t ≤ 9999) (h0 : (k == 0) = false) (h1 : (k == 1) = false) (h2 : (k == 2) = false) (h3 : (k == 3) = false) : Calls Tryz.prog 217 #[.agg #[.int .i64 k, .int .i64 m, .int .i64 d, .int .i64 q, .int .i64 o, .int .i64 s, .int .i64 f, .int .i64 t]] w fun e w' => e = .returned (.tuple #[.nilFunc, .bool false]) ∧ Below w.heap.size w w' := by
 have H := (Held.start w).add (f := zA8) hL
 have W1 := Lib.hid (fun v => zAn s 0 2 true v hs)
 have W2 := Lib.hid (fun v => zAn f 1 t true v hf)
 clear hf hs
 go_enter Tryz.func217, Tryz.ntmps217
 replace H := H.oct (w.heap.size) (.int .i64 k) (.int .i64 m) (.int .i64 d) (.int .i64 q) (.int .i64 o) (.int .i64 s) (.int .i64 f) (.int .i64 t) 76 rfl
 have c0 := H.cell (w.heap.size) 0 (.int .i64 k) i0_
 have c1 := H.cell (w.heap.size) 1 (.int .i64 m) i1_
 have c2 := H.cell (w.heap.size) 2 (.int .i64 d) i2_
 have c3 := H.cell (w.heap.size) 3 (.int .i64 q) i3_
 have c4 := H.cell (w.heap.size) 4 (.int .i64 o) i4_
 have c5 := H.cell (w.heap.size) 5 (.int .i64 s) i5_
 have c6 := H.cell (w.heap.size) 6 (.int .i64 f) i6_
 have c7 := H.cell (w.heap.size) 7 (.int .i64 t) i7_
 have lc := H.lt (w.heap.size) 0 (.int .i64 k) i0_
 go_wp2_with fail
 (with_reducible refine (W1.out _).mono ?_)
 rintro e v ⟨rfl, rfl⟩
 go_wp2_with fail
 (with_reducible refine (W2.out _).mono ?_)
 rintro e v ⟨rfl, rfl⟩
 go_wp2
 go_ret2
 exact ⟨rfl, H.old⟩
theorem utell_0 (k m d q o s f t : Int) (b : Bool) (w : World) (hL : Lens w) (hs : decide (0 ≤ s ∧ s ≤ 2) = true) (hf : decide (1 ≤ f ∧ f ≤ t) = true) (h9 : t ≤ 9999) (hb : decide (1 ≤ d ∧ d ≤ ln 2000 m) = b) : Calls Tryz.prog 217 #[.agg #[.int .i64 0, .int .i64 m, .int .i64 d, .int .i64 q, .int .i64 o, .int .i64 s, .int .i64 f, .int .i64 t]] w fun e w' => e = .returned (.tuple #[utl 0 b, .bool b]) ∧ Below w.heap.size w w' := by
 have H := (Held.start w).add (f := zA8) hL
 have W1 := Lib.hid (fun v => zAn s 0 2 true v hs)
 have W2 := Lib.hid (fun v => zAn f 1 t true v hf)
 obtain ⟨l, hl⟩ : ∃ l, ln 2000 m = l := ⟨_, rfl⟩
 rw [hl] at hb
 have C0 := Lib.hid (fun v h => len_eq 2000 m l v h hl)
 have W3 := Lib.hid (fun v => zAn d 1 l b v hb)
 clear hf hs hb hl
 go_enter Tryz.func217, Tryz.ntmps217
 replace H := H.oct (w.heap.size) (.int .i64 0) (.int .i64 m) (.int .i64 d) (.int .i64 q) (.int .i64 o) (.int .i64 s) (.int .i64 f) (.int .i64 t) 76 rfl
 have c0 := H.cell (w.heap.size) 0 (.int .i64 0) i0_
 have c1 := H.cell (w.heap.size) 1 (.int .i64 m) i1_
 have c2 := H.cell (w.heap.size) 2 (.int .i64 d) i2_
 have c3 := H.cell (w.heap.size) 3 (.int .i64 q) i3_
 have c4 := H.cell (w.heap.size) 4 (.int .i64 o) i4_
 have c5 := H.cell (w.heap.size) 5 (.int .i64 s) i5_
 have c6 := H.cell (w.heap.size) 6 (.int .i64 f) i6_
 have c7 := H.cell (w.heap.size) 7 (.int .i64 t) i7_
 have lc := H.lt (w.heap.size) 0 (.int .i64 0) i0_
 go_wp2_with fail
 (with_reducible refine (W1.out _).mono ?_)
 rintro e v ⟨rfl, rfl⟩
 go_wp2_with fail
 (with_reducible refine (W2.out _).mono ?_)
 rintro e v ⟨rfl, rfl⟩
 go_wp2_with fail
 have HK := H.old
 have L0 := Lib.hid (fun n => (H.drewN n).lens i16_)
 clear H
 go_quiet (first | (go_at_call 167; with_reducible exact zAu (C0.out _ (L0.out _))) | (go_at_call 218; with_reducible exact zAu (W3.out _)))
 cases b
 ·go_wp2
  go_ret2
  exact ⟨rfl, zAa HK _⟩
 ·go_wp2
  go_ret2
  exact ⟨rfl, zAa HK _⟩
theorem utell_2 (k m d q o s f t : Int) (b : Bool) (w : World) (hL : Lens w) (hs : decide (0 ≤ s ∧ s ≤ 2) = true) (hf : decide (1 ≤ f ∧ f ≤ t) = true) (h9 : t ≤ 9999) (hb : (decide (1 ≤ m ∧ m ≤ 12) && decide (0 ≤ d ∧ d ≤ 6)) = b) : Calls Tryz.prog 217 #[.agg #[.int .i64 2, .int .i64 m, .int .i64 d, .int .i64 q, .int .i64 o, .int .i64 s, .int .i64 f, .int .i64 t]] w fun e w' => e = .returned (.tuple #[utl 2 b, .bool b]) ∧ Below w.heap.size w w' := by
 have H := (Held.start w).add (f := zA8) hL
 have W1 := Lib.hid (fun v => zAn s 0 2 true v hs)
 have W2 := Lib.hid (fun v => zAn f 1 t true v hf)
 obtain ⟨b1, hb1⟩ : ∃ c, decide (1 ≤ m ∧ m ≤ 12) = c := ⟨_, rfl⟩
 obtain ⟨b2, hb2⟩ : ∃ c, decide (0 ≤ d ∧ d ≤ 6) = c := ⟨_, rfl⟩
 rw [hb1, hb2] at hb
 have HB := Lib.hid hb
 have W4 := Lib.hid (fun v => zAn m 1 12 b1 v hb1)
 have W5 := Lib.hid (fun v => zAn d 0 6 b2 v hb2)
 clear hf hs hb hb1 hb2
 go_enter Tryz.func217, Tryz.ntmps217
 replace H := H.oct (w.heap.size) (.int .i64 2) (.int .i64 m) (.int .i64 d) (.int .i64 q) (.int .i64 o) (.int .i64 s) (.int .i64 f) (.int .i64 t) 76 rfl
 have c0 := H.cell (w.heap.size) 0 (.int .i64 2) i0_
 have c1 := H.cell (w.heap.size) 1 (.int .i64 m) i1_
 have c2 := H.cell (w.heap.size) 2 (.int .i64 d) i2_
 have c3 := H.cell (w.heap.size) 3 (.int .i64 q) i3_
 have c4 := H.cell (w.heap.size) 4 (.int .i64 o) i4_
 have c5 := H.cell (w.heap.size) 5 (.int .i64 s) i5_
 have c6 := H.cell (w.heap.size) 6 (.int .i64 f) i6_
 have c7 := H.cell (w.heap.size) 7 (.int .i64 t) i7_
 have lc := H.lt (w.heap.size) 0 (.int .i64 2) i0_
 go_wp2_with fail
 (with_reducible refine (W1.out _).mono ?_)
 rintro e v ⟨rfl, rfl⟩
 go_wp2_with fail
 (with_reducible refine (W2.out _).mono ?_)
 rintro e v ⟨rfl, rfl⟩
 go_wp2_with fail
 (with_reducible refine (W4.out _).mono ?_)
 rintro e v ⟨rfl, rfl⟩
 cases b1
 ·obtain rfl : false = b := by simpa using HB.out
  go_wp2
  go_ret2
  exact ⟨rfl, H.old⟩
 ·go_wp2_with fail
  (with_reducible refine (W5.out _).mono ?_)
  rintro e v ⟨rfl, rfl⟩
  obtain rfl : b2 = b := by simpa using HB.out
  cases b2
  ·go_wp2
   go_ret2
   exact ⟨rfl, H.old⟩
  ·go_wp2
   go_ret2
   exact ⟨rfl, H.old⟩
theorem utell_1n (k m d q o s f t : Int) (w : World) (hL : Lens w) (hs : decide (0 ≤ s ∧ s ≤ 2) = true) (hf : decide (1 ≤ f ∧ f ≤ t) = true) (h9 : t ≤ 9999) (hq : decide (1 ≤ q ∧ q ≤ 5) = false) : Calls Tryz.prog 217 #[.agg #[.int .i64 1, .int .i64 m, .int .i64 d, .int .i64 q, .int .i64 o, .int .i64 s, .int .i64 f, .int .i64 t]] w fun e w' => e = .returned (.tuple #[.nilFunc, .bool false]) ∧ Below w.heap.size w w' := by
 have H := (Held.start w).add (f := zA8) hL
 have W1 := Lib.hid (fun v => zAn s 0 2 true v hs)
 have W2 := Lib.hid (fun v => zAn f 1 t true v hf)
 have W3 := Lib.hid (fun v => zAn q 1 5 false v hq)
 clear hf hs hq
 go_enter Tryz.func217, Tryz.ntmps217
 replace H := H.oct (w.heap.size) (.int .i64 1) (.int .i64 m) (.int .i64 d) (.int .i64 q) (.int .i64 o) (.int .i64 s) (.int .i64 f) (.int .i64 t) 76 rfl
 have c0 := H.cell (w.heap.size) 0 (.int .i64 1) i0_
 have c1 := H.cell (w.heap.size) 1 (.int .i64 m) i1_
 have c2 := H.cell (w.heap.size) 2 (.int .i64 d) i2_
 have c3 := H.cell (w.heap.size) 3 (.int .i64 q) i3_
 have c4 := H.cell (w.heap.size) 4 (.int .i64 o) i4_
 have c5 := H.cell (w.heap.size) 5 (.int .i64 s) i5_
 have c6 := H.cell (w.heap.size) 6 (.int .i64 f) i6_
 have c7 := H.cell (w.heap.size) 7 (.int .i64 t) i7_
 have lc := H.lt (w.heap.size) 0 (.int .i64 1) i0_
 go_wp2_with fail
 (with_reducible refine (W1.out _).mono ?_)
 rintro e v ⟨rfl, rfl⟩
 go_wp2_with fail
 (with_reducible refine (W2.out _).mono ?_)
 rintro e v ⟨rfl, rfl⟩
 go_wp2_with fail
 (with_reducible refine (W3.out _).mono ?_)
 rintro e v ⟨rfl, rfl⟩
 go_wp2
 go_ret2
 exact ⟨rfl, H.old⟩
theorem utell_1 (k m d q o s f t : Int) (b : Bool) (w : World) (hL : Lens w) (hs : decide (0 ≤ s ∧ s ≤ 2) = true) (hf : decide (1 ≤ f ∧ f ≤ t) = true) (h9 : t ≤ 9999) (hq : decide (1 ≤ q ∧ q ≤ 5) = true) (hb : (decide (1 ≤ m ∧ m ≤ 12) && decide (0 ≤ d ∧ d ≤ 6)) = b) : Calls Tryz.prog 217 #[.agg #[.int .i64 1, .int .i64 m, .int .i64 d, .int .i64 q, .int .i64 o, .int .i64 s, .int .i64 f, .int .i64 t]] w fun e w' => e = .returned (.tuple #[utl 1 b, .bool b]) ∧ Below w.heap.size w w' := by
 have H := (Held.start w).add (f := zA8) hL
 have W1 := Lib.hid (fun v => zAn s 0 2 true v hs)
 have W2 := Lib.hid (fun v => zAn f 1 t true v hf)
 obtain ⟨b1, hb1⟩ : ∃ c, decide (1 ≤ m ∧ m ≤ 12) = c := ⟨_, rfl⟩
 obtain ⟨b2, hb2⟩ : ∃ c, decide (0 ≤ d ∧ d ≤ 6) = c := ⟨_, rfl⟩
 rw [hb1, hb2] at hb
 have HB := Lib.hid hb
 have W4 := Lib.hid (fun v => zAn m 1 12 b1 v hb1)
 have W5 := Lib.hid (fun v => zAn d 0 6 b2 v hb2)
 have W3 := Lib.hid (fun v => zAn q 1 5 true v hq)
 clear hf hs hb hb1 hb2 hq
 go_enter Tryz.func217, Tryz.ntmps217
 replace H := H.oct (w.heap.size) (.int .i64 1) (.int .i64 m) (.int .i64 d) (.int .i64 q) (.int .i64 o) (.int .i64 s) (.int .i64 f) (.int .i64 t) 76 rfl
 have c0 := H.cell (w.heap.size) 0 (.int .i64 1) i0_
 have c1 := H.cell (w.heap.size) 1 (.int .i64 m) i1_
 have c2 := H.cell (w.heap.size) 2 (.int .i64 d) i2_
 have c3 := H.cell (w.heap.size) 3 (.int .i64 q) i3_
 have c4 := H.cell (w.heap.size) 4 (.int .i64 o) i4_
 have c5 := H.cell (w.heap.size) 5 (.int .i64 s) i5_
 have c6 := H.cell (w.heap.size) 6 (.int .i64 f) i6_
 have c7 := H.cell (w.heap.size) 7 (.int .i64 t) i7_
 have lc := H.lt (w.heap.size) 0 (.int .i64 1) i0_
 go_wp2_with fail
 (with_reducible refine (W1.out _).mono ?_)
 rintro e v ⟨rfl, rfl⟩
 go_wp2_with fail
 (with_reducible refine (W2.out _).mono ?_)
 rintro e v ⟨rfl, rfl⟩
 go_wp2_with fail
 (with_reducible refine (W3.out _).mono ?_)
 rintro e v ⟨rfl, rfl⟩
 go_wp2_with fail
 (with_reducible refine (W4.out _).mono ?_)
 rintro e v ⟨rfl, rfl⟩
 cases b1
 ·obtain rfl : false = b := by simpa using HB.out
  go_wp2
  go_ret2
  exact ⟨rfl, H.old⟩
 ·go_wp2_with fail
  (with_reducible refine (W5.out _).mono ?_)
  rintro e v ⟨rfl, rfl⟩
  obtain rfl : b2 = b := by simpa using HB.out
  cases b2
  ·go_wp2
   go_ret2
   exact ⟨rfl, H.old⟩
  ·go_wp2
   go_ret2
   exact ⟨rfl, H.old⟩
theorem utell_3 (k m d q o s f t : Int) (b : Bool) (w : World) (hL : Lens w) (hs : decide (0 ≤ s ∧ s ≤ 2) = true) (hf : decide (1 ≤ f ∧ f ≤ t) = true) (h9 : t ≤ 9999) (hb : decide (-100 ≤ o ∧ o ≤ 250) = b) : Calls Tryz.prog 217 #[.agg #[.int .i64 3, .int .i64 m, .int .i64 d, .int .i64 q, .int .i64 o, .int .i64 s, .int .i64 f, .int .i64 t]] w fun e w' => e = .returned (.tuple #[utl 3 b, .bool b]) ∧ Below w.heap.size w w' := by
 have H := (Held.start w).add (f := zA8) hL
 have W1 := Lib.hid (fun v => zAn s 0 2 true v hs)
 have W2 := Lib.hid (fun v => zAn f 1 t true v hf)
 have W3 := Lib.hid (fun v => zAn o (-100) 250 b v hb)
 clear hf hs hb
 go_enter Tryz.func217, Tryz.ntmps217
 replace H := H.oct (w.heap.size) (.int .i64 3) (.int .i64 m) (.int .i64 d) (.int .i64 q) (.int .i64 o) (.int .i64 s) (.int .i64 f) (.int .i64 t) 76 rfl
 have c0 := H.cell (w.heap.size) 0 (.int .i64 3) i0_
 have c1 := H.cell (w.heap.size) 1 (.int .i64 m) i1_
 have c2 := H.cell (w.heap.size) 2 (.int .i64 d) i2_
 have c3 := H.cell (w.heap.size) 3 (.int .i64 q) i3_
 have c4 := H.cell (w.heap.size) 4 (.int .i64 o) i4_
 have c5 := H.cell (w.heap.size) 5 (.int .i64 s) i5_
 have c6 := H.cell (w.heap.size) 6 (.int .i64 f) i6_
 have c7 := H.cell (w.heap.size) 7 (.int .i64 t) i7_
 have lc := H.lt (w.heap.size) 0 (.int .i64 3) i0_
 go_wp2_with fail
 (with_reducible refine (W1.out _).mono ?_)
 rintro e v ⟨rfl, rfl⟩
 go_wp2_with fail
 (with_reducible refine (W2.out _).mono ?_)
 rintro e v ⟨rfl, rfl⟩
 go_wp2_with fail
 (with_reducible refine (W3.out _).mono ?_)
 rintro e v ⟨rfl, rfl⟩
 cases b
 ·go_wp2
  go_ret2
  exact ⟨rfl, H.old⟩
 ·go_wp2
  go_ret2
  exact ⟨rfl, H.old⟩
theorem zDz (k m d q o s f t : Int) (b : Bool) (w : World) (hL : Lens w) (hb : Ru.mb ⟨k, m, d, q, o, s, f, t⟩ = b) : Calls Tryz.prog 217 #[.agg #[.int .i64 k, .int .i64 m, .int .i64 d, .int .i64 q, .int .i64 o, .int .i64 s, .int .i64 f, .int .i64 t]] w fun e w' => e = .returned (.tuple #[utl k b, .bool b]) ∧ Below w.heap.size w w' := by
 by_cases hs : 0 ≤ s ∧ s ≤ 2
 ·by_cases hf : 1 ≤ f ∧ f ≤ t
  ·by_cases h9 : t ≤ 9999
   ·have gs := decide_eq_true hs
    have gf := decide_eq_true hf
    have h3 : 1 ≤ f ∧ f ≤ t ∧ t ≤ 9999 := ⟨hf.1, hf.2, h9⟩
    by_cases k0 : k = 0
    ·subst k0
     refine utell_0 0 _ _ _ _ _ _ _ b w hL gs gf h9 ?_
     rw [← hb]; unfold Ru.mb; rw [decide_eq_decide]
     refine ⟨fun a => ⟨⟨by simp, by simp⟩, hs, h3, fun c => ?_, fun _ => ?_, fun _ => a, fun c => ?_, fun c => ?_⟩, fun a => a.2.2.2.2.2.1 rfl⟩
     ·simp at c
     ·by_cases g : 1 ≤ m ∧ m ≤ 12
      ·exact g
      ·have := zLc 2000 m (by omega); simp only at *; omega
     ·simp at c
     ·simp at c
    ·by_cases k1 : k = 1
     ·subst k1
      by_cases hq : 1 ≤ q ∧ q ≤ 5
      ·refine utell_1 1 _ _ _ _ _ _ _ b w hL gs gf h9 (decide_eq_true hq) ?_
       rw [← hb, Bool.eq_iff_iff]; unfold Ru.mb
       simp only [Bool.and_eq_true, decide_eq_true_eq]
       exact ⟨fun a => ⟨⟨by simp, by simp⟩, hs, h3, fun c => by simp at c, fun _ => a.1, fun c => by simp at c, fun _ => a.2, fun _ => hq⟩, fun a => ⟨a.2.2.2.2.1 (by simp), a.2.2.2.2.2.2.1 (by simp)⟩⟩
      ·obtain rfl : false = b := by
        rw [← hb]; exact (decide_eq_false (fun a => hq (a.2.2.2.2.2.2.2 rfl))).symm
       exact utell_1n 1 _ _ _ _ _ _ _ w hL gs gf h9 (decide_eq_false hq)
     ·by_cases k2 : k = 2
      ·subst k2
       refine utell_2 2 _ _ _ _ _ _ _ b w hL gs gf h9 ?_
       rw [← hb, Bool.eq_iff_iff]; unfold Ru.mb
       simp only [Bool.and_eq_true, decide_eq_true_eq]
       exact ⟨fun a => ⟨⟨by simp, by simp⟩, hs, h3, fun c => by simp at c, fun _ => a.1, fun c => by simp at c, fun _ => a.2, fun c => by simp at c⟩, fun a => ⟨a.2.2.2.2.1 (by simp), a.2.2.2.2.2.2.1 (by simp)⟩⟩
      ·by_cases k3 : k = 3
       ·subst k3
        refine utell_3 3 _ _ _ _ _ _ _ b w hL gs gf h9 ?_
        rw [← hb]; unfold Ru.mb; rw [decide_eq_decide]
        exact ⟨fun a => ⟨⟨by simp, by simp⟩, hs, h3, fun _ => a, fun c => absurd rfl c, fun c => by simp at c, fun c => by simp at c, fun c => by simp at c⟩, fun a => a.2.2.2.1 rfl⟩
       ·obtain rfl : false = b := by
         rw [← hb]; exact (decide_eq_false (fun a => by have := a.1; simp only at this; omega)).symm
        exact utell_x k _ _ _ _ _ _ _ w hL gs gf h9 (by simpa using k0) (by simpa using k1) (by simpa using k2) (by simpa using k3)
   ·obtain rfl : false = b := by
     rw [← hb]; exact (decide_eq_false (fun a => h9 a.2.2.1.2.2)).symm
    exact utell_c k _ _ _ _ _ _ _ w hL (decide_eq_true hs) (decide_eq_true hf) (by omega)
  ·obtain rfl : false = b := by
    rw [← hb]; exact (decide_eq_false (fun a => hf ⟨a.2.2.1.1, a.2.2.1.2.1⟩)).symm
   exact utell_b k _ _ _ _ _ _ _ w hL (decide_eq_true hs) (decide_eq_false hf)
 ·obtain rfl : false = b := by
   rw [← hb]; exact (decide_eq_false (fun a => hs a.2.1)).symm
  exact utell_a k _ _ _ _ _ _ _ w hL (decide_eq_false hs)
theorem zRh (k m d q o s f t y n : Int) (b : Bool) (w : World) (hL : Lens w) (hM : Ru.mb ⟨k, m, d, q, o, s, f, t⟩ = true) (hy : y < f ∨ t < y) : Calls Tryz.prog 211 #[.agg #[.int .i64 k, .int .i64 m, .int .i64 d, .int .i64 q, .int .i64 o, .int .i64 s, .int .i64 f, .int .i64 t], .int .i64 y] w fun e w' => e = .returned (.tuple #[.int .i64 0, .bool false]) ∧ Below w.heap.size w w' := by
 have H := (Held.start w).add (f := zA8) hL
 have C := Lib.hid (fun v h => zDz k m d q o s f t true v h hM)
 obtain ⟨fv, hfv⟩ : ∃ fv, utl k true = fv := ⟨_, rfl⟩
 rw [hfv] at C
 clear hfv
 clear hL hM
 go_enter Tryz.func211, Tryz.ntmps211
 replace H := H.oct (w.heap.size) (.int .i64 k) (.int .i64 m) (.int .i64 d) (.int .i64 q) (.int .i64 o) (.int .i64 s) (.int .i64 f) (.int .i64 t) 76 rfl
 have c0 := H.cell (w.heap.size) 0 (.int .i64 k) i0_
 have c1 := H.cell (w.heap.size) 1 (.int .i64 m) i1_
 have c2 := H.cell (w.heap.size) 2 (.int .i64 d) i2_
 have c3 := H.cell (w.heap.size) 3 (.int .i64 q) i3_
 have c4 := H.cell (w.heap.size) 4 (.int .i64 o) i4_
 have c5 := H.cell (w.heap.size) 5 (.int .i64 s) i5_
 have c6 := H.cell (w.heap.size) 6 (.int .i64 f) i6_
 have c7 := H.cell (w.heap.size) 7 (.int .i64 t) i7_
 have lc := H.lt (w.heap.size) 0 (.int .i64 k) i0_
 go_wp2_with fail
 (with_reducible refine (C.out _ (H.lens i16_)).mono ?_)
 rintro e w1 ⟨rfl, hb⟩
 clear c0 c1 c2 c3 c4 c5 c6 c7 lc
 replace H := H.below hb
 clear hb
 have c0 := H.cell (w.heap.size) 0 (.int .i64 k) i0_
 have c1 := H.cell (w.heap.size) 1 (.int .i64 m) i1_
 have c2 := H.cell (w.heap.size) 2 (.int .i64 d) i2_
 have c3 := H.cell (w.heap.size) 3 (.int .i64 q) i3_
 have c4 := H.cell (w.heap.size) 4 (.int .i64 o) i4_
 have c5 := H.cell (w.heap.size) 5 (.int .i64 s) i5_
 have c6 := H.cell (w.heap.size) 6 (.int .i64 f) i6_
 have c7 := H.cell (w.heap.size) 7 (.int .i64 t) i7_
 have lc := H.lt (w.heap.size) 0 (.int .i64 k) i0_
 go_wp2
 all_goals first | (exfalso; omega) | skip
 all_goals (go_ret2; exact ⟨rfl, H.old⟩)
theorem zRd (k m d q o s f t y n : Int) (b : Bool) (w : World) (hL : Lens w) (hM : Ru.mb ⟨0, m, d, q, o, s, f, t⟩ = true) (h1 : f ≤ y) (h2 : y ≤ t) (K : ∀ v : World, Lens v → Calls Tryz.prog 222 #[.agg #[.int .i64 0, .int .i64 m, .int .i64 d, .int .i64 q, .int .i64 o, .int .i64 s, .int .i64 f, .int .i64 t], .int .i64 y] v fun e v' => e = .returned (.tuple #[.int .i64 n, .bool b]) ∧ Below v.heap.size v v') : Calls Tryz.prog 211 #[.agg #[.int .i64 0, .int .i64 m, .int .i64 d, .int .i64 q, .int .i64 o, .int .i64 s, .int .i64 f, .int .i64 t], .int .i64 y] w fun e w' => e = .returned (.tuple #[.int .i64 n, .bool b]) ∧ Below w.heap.size w w' := by
 have H := (Held.start w).add (f := zA8) hL
 have K := Lib.hid K
 have C := Lib.hid (fun v h => zDz 0 m d q o s f t true v h hM)
 have C : Hid (∀ v : World, Lens v → Calls Tryz.prog 217 #[.agg #[.int .i64 0, .int .i64 m, .int .i64 d, .int .i64 q, .int .i64 o, .int .i64 s, .int .i64 f, .int .i64 t]] v fun e v' => e = .returned (.tuple #[.func (.func 222) #[] #[], .bool true]) ∧ Below v.heap.size v v') := C
 clear hL hM
 go_enter Tryz.func211, Tryz.ntmps211
 replace H := H.oct (w.heap.size) (.int .i64 0) (.int .i64 m) (.int .i64 d) (.int .i64 q) (.int .i64 o) (.int .i64 s) (.int .i64 f) (.int .i64 t) 76 rfl
 have c0 := H.cell (w.heap.size) 0 (.int .i64 0) i0_
 have c1 := H.cell (w.heap.size) 1 (.int .i64 m) i1_
 have c2 := H.cell (w.heap.size) 2 (.int .i64 d) i2_
 have c3 := H.cell (w.heap.size) 3 (.int .i64 q) i3_
 have c4 := H.cell (w.heap.size) 4 (.int .i64 o) i4_
 have c5 := H.cell (w.heap.size) 5 (.int .i64 s) i5_
 have c6 := H.cell (w.heap.size) 6 (.int .i64 f) i6_
 have c7 := H.cell (w.heap.size) 7 (.int .i64 t) i7_
 have lc := H.lt (w.heap.size) 0 (.int .i64 0) i0_
 go_wp2_with fail
 (with_reducible refine (C.out _ (H.lens i16_)).mono ?_)
 rintro e w1 ⟨rfl, hb⟩
 clear c0 c1 c2 c3 c4 c5 c6 c7 lc
 replace H := H.below hb
 clear hb
 have c0 := H.cell (w.heap.size) 0 (.int .i64 0) i0_
 have c1 := H.cell (w.heap.size) 1 (.int .i64 m) i1_
 have c2 := H.cell (w.heap.size) 2 (.int .i64 d) i2_
 have c3 := H.cell (w.heap.size) 3 (.int .i64 q) i3_
 have c4 := H.cell (w.heap.size) 4 (.int .i64 o) i4_
 have c5 := H.cell (w.heap.size) 5 (.int .i64 s) i5_
 have c6 := H.cell (w.heap.size) 6 (.int .i64 f) i6_
 have c7 := H.cell (w.heap.size) 7 (.int .i64 t) i7_
 have lc := H.lt (w.heap.size) 0 (.int .i64 0) i0_
 go_wp2_with fail
 (with_reducible refine (K.out _ (H.lens i16_)).mono ?_)
 rintro e w2 ⟨rfl, hb⟩
 replace H := H.below hb
 clear hb
 go_wp2
 go_ret2
 exact ⟨rfl, H.old⟩
theorem zRe (k m d q o s f t y n : Int) (b : Bool) (w : World) (hL : Lens w) (hM : Ru.mb ⟨1, m, d, q, o, s, f, t⟩ = true) (h1 : f ≤ y) (h2 : y ≤ t) (K : ∀ v : World, Lens v → Calls Tryz.prog 223 #[.agg #[.int .i64 1, .int .i64 m, .int .i64 d, .int .i64 q, .int .i64 o, .int .i64 s, .int .i64 f, .int .i64 t], .int .i64 y] v fun e v' => e = .returned (.tuple #[.int .i64 n, .bool b]) ∧ Below v.heap.size v v') : Calls Tryz.prog 211 #[.agg #[.int .i64 1, .int .i64 m, .int .i64 d, .int .i64 q, .int .i64 o, .int .i64 s, .int .i64 f, .int .i64 t], .int .i64 y] w fun e w' => e = .returned (.tuple #[.int .i64 n, .bool b]) ∧ Below w.heap.size w w' := by
 have H := (Held.start w).add (f := zA8) hL
 have K := Lib.hid K
 have C := Lib.hid (fun v h => zDz 1 m d q o s f t true v h hM)
 have C : Hid (∀ v : World, Lens v → Calls Tryz.prog 217 #[.agg #[.int .i64 1, .int .i64 m, .int .i64 d, .int .i64 q, .int .i64 o, .int .i64 s, .int .i64 f, .int .i64 t]] v fun e v' => e = .returned (.tuple #[.func (.func 223) #[] #[], .bool true]) ∧ Below v.heap.size v v') := C
 clear hL hM
 go_enter Tryz.func211, Tryz.ntmps211
 replace H := H.oct (w.heap.size) (.int .i64 1) (.int .i64 m) (.int .i64 d) (.int .i64 q) (.int .i64 o) (.int .i64 s) (.int .i64 f) (.int .i64 t) 76 rfl
 have c0 := H.cell (w.heap.size) 0 (.int .i64 1) i0_
 have c1 := H.cell (w.heap.size) 1 (.int .i64 m) i1_
 have c2 := H.cell (w.heap.size) 2 (.int .i64 d) i2_
 have c3 := H.cell (w.heap.size) 3 (.int .i64 q) i3_
 have c4 := H.cell (w.heap.size) 4 (.int .i64 o) i4_
 have c5 := H.cell (w.heap.size) 5 (.int .i64 s) i5_
 have c6 := H.cell (w.heap.size) 6 (.int .i64 f) i6_
 have c7 := H.cell (w.heap.size) 7 (.int .i64 t) i7_
 have lc := H.lt (w.heap.size) 0 (.int .i64 1) i0_
 go_wp2_with fail
 (with_reducible refine (C.out _ (H.lens i16_)).mono ?_)
 rintro e w1 ⟨rfl, hb⟩
 clear c0 c1 c2 c3 c4 c5 c6 c7 lc
 replace H := H.below hb
 clear hb
 have c0 := H.cell (w.heap.size) 0 (.int .i64 1) i0_
 have c1 := H.cell (w.heap.size) 1 (.int .i64 m) i1_
 have c2 := H.cell (w.heap.size) 2 (.int .i64 d) i2_
 have c3 := H.cell (w.heap.size) 3 (.int .i64 q) i3_
 have c4 := H.cell (w.heap.size) 4 (.int .i64 o) i4_
 have c5 := H.cell (w.heap.size) 5 (.int .i64 s) i5_
 have c6 := H.cell (w.heap.size) 6 (.int .i64 f) i6_
 have c7 := H.cell (w.heap.size) 7 (.int .i64 t) i7_
 have lc := H.lt (w.heap.size) 0 (.int .i64 1) i0_
 go_wp2_with fail
 (with_reducible refine (K.out _ (H.lens i16_)).mono ?_)
 rintro e w2 ⟨rfl, hb⟩
 replace H := H.below hb
 clear hb
 go_wp2
 go_ret2
 exact ⟨rfl, H.old⟩
theorem zRf (k m d q o s f t y n : Int) (b : Bool) (w : World) (hL : Lens w) (hM : Ru.mb ⟨2, m, d, q, o, s, f, t⟩ = true) (h1 : f ≤ y) (h2 : y ≤ t) (K : ∀ v : World, Lens v → Calls Tryz.prog 221 #[.agg #[.int .i64 2, .int .i64 m, .int .i64 d, .int .i64 q, .int .i64 o, .int .i64 s, .int .i64 f, .int .i64 t], .int .i64 y] v fun e v' => e = .returned (.tuple #[.int .i64 n, .bool b]) ∧ Below v.heap.size v v') : Calls Tryz.prog 211 #[.agg #[.int .i64 2, .int .i64 m, .int .i64 d, .int .i64 q, .int .i64 o, .int .i64 s, .int .i64 f, .int .i64 t], .int .i64 y] w fun e w' => e = .returned (.tuple #[.int .i64 n, .bool b]) ∧ Below w.heap.size w w' := by
 have H := (Held.start w).add (f := zA8) hL
 have K := Lib.hid K
 have C := Lib.hid (fun v h => zDz 2 m d q o s f t true v h hM)
 have C : Hid (∀ v : World, Lens v → Calls Tryz.prog 217 #[.agg #[.int .i64 2, .int .i64 m, .int .i64 d, .int .i64 q, .int .i64 o, .int .i64 s, .int .i64 f, .int .i64 t]] v fun e v' => e = .returned (.tuple #[.func (.func 221) #[] #[], .bool true]) ∧ Below v.heap.size v v') := C
 clear hL hM
 go_enter Tryz.func211, Tryz.ntmps211
 replace H := H.oct (w.heap.size) (.int .i64 2) (.int .i64 m) (.int .i64 d) (.int .i64 q) (.int .i64 o) (.int .i64 s) (.int .i64 f) (.int .i64 t) 76 rfl
 have c0 := H.cell (w.heap.size) 0 (.int .i64 2) i0_
 have c1 := H.cell (w.heap.size) 1 (.int .i64 m) i1_
 have c2 := H.cell (w.heap.size) 2 (.int .i64 d) i2_
 have c3 := H.cell (w.heap.size) 3 (.int .i64 q) i3_
 have c4 := H.cell (w.heap.size) 4 (.int .i64 o) i4_
 have c5 := H.cell (w.heap.size) 5 (.int .i64 s) i5_
 have c6 := H.cell (w.heap.size) 6 (.int .i64 f) i6_
 have c7 := H.cell (w.heap.size) 7 (.int .i64 t) i7_
 have lc := H.lt (w.heap.size) 0 (.int .i64 2) i0_
 go_wp2_with fail
 (with_reducible refine (C.out _ (H.lens i16_)).mono ?_)
 rintro e w1 ⟨rfl, hb⟩
 clear c0 c1 c2 c3 c4 c5 c6 c7 lc
 replace H := H.below hb
 clear hb
 have c0 := H.cell (w.heap.size) 0 (.int .i64 2) i0_
 have c1 := H.cell (w.heap.size) 1 (.int .i64 m) i1_
 have c2 := H.cell (w.heap.size) 2 (.int .i64 d) i2_
 have c3 := H.cell (w.heap.size) 3 (.int .i64 q) i3_
 have c4 := H.cell (w.heap.size) 4 (.int .i64 o) i4_
 have c5 := H.cell (w.heap.size) 5 (.int .i64 s) i5_
 have c6 := H.cell (w.heap.size) 6 (.int .i64 f) i6_
 have c7 := H.cell (w.heap.size) 7 (.int .i64 t) i7_
 have lc := H.lt (w.heap.size) 0 (.int .i64 2) i0_
 go_wp2_with fail
 (with_reducible refine (K.out _ (H.lens i16_)).mono ?_)
 rintro e w2 ⟨rfl, hb⟩
 replace H := H.below hb
 clear hb
 go_wp2
 go_ret2
 exact ⟨rfl, H.old⟩
theorem zRg (k m d q o s f t y n : Int) (b : Bool) (w : World) (hL : Lens w) (hM : Ru.mb ⟨3, m, d, q, o, s, f, t⟩ = true) (h1 : f ≤ y) (h2 : y ≤ t) (K : ∀ v : World, Lens v → Calls Tryz.prog 224 #[.agg #[.int .i64 3, .int .i64 m, .int .i64 d, .int .i64 q, .int .i64 o, .int .i64 s, .int .i64 f, .int .i64 t], .int .i64 y] v fun e v' => e = .returned (.tuple #[.int .i64 n, .bool b]) ∧ Below v.heap.size v v') : Calls Tryz.prog 211 #[.agg #[.int .i64 3, .int .i64 m, .int .i64 d, .int .i64 q, .int .i64 o, .int .i64 s, .int .i64 f, .int .i64 t], .int .i64 y] w fun e w' => e = .returned (.tuple #[.int .i64 n, .bool b]) ∧ Below w.heap.size w w' := by
 have H := (Held.start w).add (f := zA8) hL
 have K := Lib.hid K
 have C := Lib.hid (fun v h => zDz 3 m d q o s f t true v h hM)
 have C : Hid (∀ v : World, Lens v → Calls Tryz.prog 217 #[.agg #[.int .i64 3, .int .i64 m, .int .i64 d, .int .i64 q, .int .i64 o, .int .i64 s, .int .i64 f, .int .i64 t]] v fun e v' => e = .returned (.tuple #[.func (.func 224) #[] #[], .bool true]) ∧ Below v.heap.size v v') := C
 clear hL hM
 go_enter Tryz.func211, Tryz.ntmps211
 replace H := H.oct (w.heap.size) (.int .i64 3) (.int .i64 m) (.int .i64 d) (.int .i64 q) (.int .i64 o) (.int .i64 s) (.int .i64 f) (.int .i64 t) 76 rfl
 have c0 := H.cell (w.heap.size) 0 (.int .i64 3) i0_
 have c1 := H.cell (w.heap.size) 1 (.int .i64 m) i1_
 have c2 := H.cell (w.heap.size) 2 (.int .i64 d) i2_
 have c3 := H.cell (w.heap.size) 3 (.int .i64 q) i3_
 have c4 := H.cell (w.heap.size) 4 (.int .i64 o) i4_
 have c5 := H.cell (w.heap.size) 5 (.int .i64 s) i5_
 have c6 := H.cell (w.heap.size) 6 (.int .i64 f) i6_
 have c7 := H.cell (w.heap.size) 7 (.int .i64 t) i7_
 have lc := H.lt (w.heap.size) 0 (.int .i64 3) i0_
 go_wp2_with fail
 (with_reducible refine (C.out _ (H.lens i16_)).mono ?_)
 rintro e w1 ⟨rfl, hb⟩
 clear c0 c1 c2 c3 c4 c5 c6 c7 lc
 replace H := H.below hb
 clear hb
 have c0 := H.cell (w.heap.size) 0 (.int .i64 3) i0_
 have c1 := H.cell (w.heap.size) 1 (.int .i64 m) i1_
 have c2 := H.cell (w.heap.size) 2 (.int .i64 d) i2_
 have c3 := H.cell (w.heap.size) 3 (.int .i64 q) i3_
 have c4 := H.cell (w.heap.size) 4 (.int .i64 o) i4_
 have c5 := H.cell (w.heap.size) 5 (.int .i64 s) i5_
 have c6 := H.cell (w.heap.size) 6 (.int .i64 f) i6_
 have c7 := H.cell (w.heap.size) 7 (.int .i64 t) i7_
 have lc := H.lt (w.heap.size) 0 (.int .i64 3) i0_
 go_wp2_with fail
 (with_reducible refine (K.out _ (H.lens i16_)).mono ?_)
 rintro e w2 ⟨rfl, hb⟩
 replace H := H.below hb
 clear hb
 go_wp2
 go_ret2
 exact ⟨rfl, H.old⟩
theorem zLr (k m d q o s f t y n : Int) (b : Bool) (w : World) (hL : FactsU w) (hM : Ru.May ⟨k, m, d, q, o, s, f, t⟩) (hn : Ru.bas ⟨k, m, d, q, o, s, f, t⟩ y = n) (hb : decide (0 < n) = b) : Calls Tryz.prog 211 #[.agg #[.int .i64 k, .int .i64 m, .int .i64 d, .int .i64 q, .int .i64 o, .int .i64 s, .int .i64 f, .int .i64 t], .int .i64 y] w fun e w' => e = .returned (.tuple #[.int .i64 n, .bool b]) ∧ Below w.heap.size w w' := by
 have hM1 := ru_yes hM
 obtain ⟨hk, hs, hf, ho, hm, h0, h12, hq⟩ := id hM
 simp only at hk hs hf ho hm h0 h12 hq
 by_cases hy : y < f ∨ t < y
 ·obtain rfl : 0 = n := by rw [← hn, zIw hy]
  obtain rfl : false = b := by rw [← hb]; rfl
  exact zRh k m d q o s f t y 0 false w hL hM1 hy
 ·have y1 : f ≤ y := by omega
  have y2 : y ≤ t := by omega
  have yy : 1 ≤ y ∧ y ≤ 9999 := by omega
  by_cases k3 : k = 3
  ·subst k3
   refine zRg 3 m d q o s f t y n b w hL hM1 y1 y2 (fun v h => zNg 3 m d q o s f t y n b v h yy (ho rfl) ?_ ?_)
   ·rw [← hb, ← hn, decide_eq_decide]
    by_cases he : 1 ≤ east y + o ∧ east y + o ≤ 3652059
    ·rw [zEr rfl ⟨y1, y2⟩ he]; exact ⟨fun _ => by simp only; omega, fun _ => he⟩
    ·rw [zEs rfl ⟨y1, y2⟩ he]; exact ⟨fun a => absurd a he, fun a => by omega⟩
   ·rw [← hb, ← hn]
    by_cases he : 1 ≤ east y + o ∧ east y + o ≤ 3652059
    ·rw [zEr rfl ⟨y1, y2⟩ he, if_pos (decide_eq_true (by simp only; omega))]
    ·rw [zEs rfl ⟨y1, y2⟩ he, if_neg (by simp)]
  ·have hm1 := hm k3
   clear hm
   obtain ⟨D, hD⟩ : ∃ D, Ru.dd ⟨k, m, d, q, o, s, f, t⟩ y = D := ⟨_, rfl⟩
   have D1 : 1 ≤ D := by rw [← hD]; exact dd_one hM k3
   have E : mb y m D = b ∧ nN y m D = n := by
    by_cases c : D ≤ ln y m
    ·have a := zEy (r := ⟨k, m, d, q, o, s, f, t⟩) (y := y) hM k3 ⟨y1, y2⟩ (by rw [hD]; exact c)
     rw [hD] at a
     have p := zC8 _ _ _ a.2
     have nn := zFu a.2
     rw [hn] at a
     simp only at a p nn
     refine ⟨?_, by rw [nn.1, a.1]⟩
     rw [(zEh _ _ _).2 a.2, ← hb, a.1]
     exact (decide_eq_true (by omega)).symm
    ·have a := zGi (r := ⟨k, m, d, q, o, s, f, t⟩) (y := y) k3 ⟨y1, y2⟩ (by rw [hD]; simp only; omega)
     rw [hn] at a
     subst a
     have no : ¬ may y m D := fun k => c (by have := k.2.2.2.2.2; exact this)
     exact ⟨by rw [(zLf _ _ _).2 no, ← hb]; rfl, (n_no no).1⟩
   by_cases k0 : k = 0
   ·subst k0
    have e : D = d := by rw [← hD]; rfl
    subst e
    exact zRd 0 m _ q o s f t y n b w hL hM1 y1 y2 (fun v h => zRj 0 _ _ _ _ _ _ _ y n b v h E.1 E.2)
   ·by_cases k1 : k = 1
    ·subst k1
     have e : nthD y m d q = D := by rw [← hD]; rfl
     exact zRe 1 m d q o s f t y n b w hL hM1 y1 y2 (fun v h => unth_is 1 _ _ _ _ _ _ _ y n b v h hm1 (h12 (Or.inl rfl)) (hq rfl) yy (by rw [e]; exact E.1) (by rw [e]; exact E.2))
    ·obtain rfl : k = 2 := by omega
     have e : zEo y m d = D := by rw [← hD]; rfl
     have lw := last_wk (y := y) (m := m) (h12 (Or.inr rfl))
     have my : may y m D := ⟨yy.1, yy.2, hm1.1, hm1.2, D1, by rw [← e]; exact lw.2.1⟩
     exact zRf 2 m d q o s f t y n b w hL hM1 y1 y2 (fun v h => ulast_is 2 _ _ _ _ _ _ _ y n b v h hm1 (h12 (Or.inr rfl)) yy (by rw [← E.1]; exact (zEh _ _ _).2 my) (by rw [e, ← E.2, (zFu my).1]))
theorem uin_no (k m d q o s f t y : Int) (w : World) (hL : Lens w) (hM : Ru.May ⟨k, m, d, q, o, s, f, t⟩) (hB : Ru.bas ⟨k, m, d, q, o, s, f, t⟩ y = 0) : Calls Tryz.prog 195 #[.agg #[.int .i64 k, .int .i64 m, .int .i64 d, .int .i64 q, .int .i64 o, .int .i64 s, .int .i64 f, .int .i64 t], .int .i64 y] w fun e w' => e = .returned (.tuple #[.int .i64 0, .bool false]) ∧ Below w.heap.size w w' := by
 have H := (Held.start w).add (f := zA8) hL
 have C := Lib.hid (fun v (h : Lens v) => zLr k m d q o s f t y 0 false v h hM hB rfl)
 clear hL hM hB
 go_enter Tryz.func195, Tryz.ntmps195
 replace H := H.oct (w.heap.size) (.int .i64 k) (.int .i64 m) (.int .i64 d) (.int .i64 q) (.int .i64 o) (.int .i64 s) (.int .i64 f) (.int .i64 t) 76 rfl
 have c0 := H.cell (w.heap.size) 0 (.int .i64 k) i0_
 have c1 := H.cell (w.heap.size) 1 (.int .i64 m) i1_
 have c2 := H.cell (w.heap.size) 2 (.int .i64 d) i2_
 have c3 := H.cell (w.heap.size) 3 (.int .i64 q) i3_
 have c4 := H.cell (w.heap.size) 4 (.int .i64 o) i4_
 have c5 := H.cell (w.heap.size) 5 (.int .i64 s) i5_
 have c6 := H.cell (w.heap.size) 6 (.int .i64 f) i6_
 have c7 := H.cell (w.heap.size) 7 (.int .i64 t) i7_
 have lc := H.lt (w.heap.size) 0 (.int .i64 k) i0_
 go_wp2_with fail
 (with_reducible refine (C.out _ (H.lens i16_)).mono ?_)
 rintro e w1 ⟨rfl, hb⟩
 replace H := H.below hb
 clear hb
 go_wp2
 go_ret2
 exact ⟨rfl, H.old⟩
theorem zRk (k m d q o s f t y B S n : Int) (b : Bool) (w : World) (hL : Lens w) (hM : Ru.May ⟨k, m, d, q, o, s, f, t⟩) (hB : Ru.bas ⟨k, m, d, q, o, s, f, t⟩ y = B) (bB : 1 ≤ B ∧ B ≤ 3652059) (hs : 0 ≤ s ∧ s ≤ 2) (hS : shd s B = S) (hb : decide (1 ≤ S ∧ S ≤ 3652059) = b) (hn : (if b = true then S else 0) = n) : Calls Tryz.prog 195 #[.agg #[.int .i64 k, .int .i64 m, .int .i64 d, .int .i64 q, .int .i64 o, .int .i64 s, .int .i64 f, .int .i64 t], .int .i64 y] w fun e w' => e = .returned (.tuple #[.int .i64 n, .bool b]) ∧ Below w.heap.size w w' := by
 have H := (Held.start w).add (f := zA8) hL
 have C := Lib.hid (fun v (h : Lens v) => zLr k m d q o s f t y B true v h hM hB (decide_eq_true (by omega)))
 have C2 := Lib.hid (fun v => zRo B s S v bB hs hS)
 have C3 := Lib.hid (fun v => zRi S n b v hb hn)
 clear hL hM hB bB hs hS hb hn
 go_enter Tryz.func195, Tryz.ntmps195
 replace H := H.oct (w.heap.size) (.int .i64 k) (.int .i64 m) (.int .i64 d) (.int .i64 q) (.int .i64 o) (.int .i64 s) (.int .i64 f) (.int .i64 t) 76 rfl
 have c0 := H.cell (w.heap.size) 0 (.int .i64 k) i0_
 have c1 := H.cell (w.heap.size) 1 (.int .i64 m) i1_
 have c2 := H.cell (w.heap.size) 2 (.int .i64 d) i2_
 have c3 := H.cell (w.heap.size) 3 (.int .i64 q) i3_
 have c4 := H.cell (w.heap.size) 4 (.int .i64 o) i4_
 have c5 := H.cell (w.heap.size) 5 (.int .i64 s) i5_
 have c6 := H.cell (w.heap.size) 6 (.int .i64 f) i6_
 have c7 := H.cell (w.heap.size) 7 (.int .i64 t) i7_
 have lc := H.lt (w.heap.size) 0 (.int .i64 k) i0_
 go_wp2_with fail
 (with_reducible refine (C.out _ (H.lens i16_)).mono ?_)
 rintro e w1 ⟨rfl, hb⟩
 clear c0 c1 c2 c3 c4 c5 c6 c7 lc
 replace H := H.below hb
 clear hb
 have c0 := H.cell (w.heap.size) 0 (.int .i64 k) i0_
 have c1 := H.cell (w.heap.size) 1 (.int .i64 m) i1_
 have c2 := H.cell (w.heap.size) 2 (.int .i64 d) i2_
 have c3 := H.cell (w.heap.size) 3 (.int .i64 q) i3_
 have c4 := H.cell (w.heap.size) 4 (.int .i64 o) i4_
 have c5 := H.cell (w.heap.size) 5 (.int .i64 s) i5_
 have c6 := H.cell (w.heap.size) 6 (.int .i64 f) i6_
 have c7 := H.cell (w.heap.size) 7 (.int .i64 t) i7_
 have lc := H.lt (w.heap.size) 0 (.int .i64 k) i0_
 go_wp2_with fail
 (with_reducible refine (C2.out _).mono ?_)
 rintro e v ⟨rfl, rfl⟩
 go_wp2_with fail
 (with_reducible refine (C3.out _).mono ?_)
 rintro e v ⟨rfl, rfl⟩
 go_wp2
 go_ret2
 exact ⟨rfl, H.old⟩
theorem uin_is (k m d q o s f t y n : Int) (b : Bool) (w : World) (hL : FactsU w) (hM : Ru.May ⟨k, m, d, q, o, s, f, t⟩) (hn : Ru.inn ⟨k, m, d, q, o, s, f, t⟩ y = n) (hb : decide (0 < n) = b) : Calls Tryz.prog 195 #[.agg #[.int .i64 k, .int .i64 m, .int .i64 d, .int .i64 q, .int .i64 o, .int .i64 s, .int .i64 f, .int .i64 t], .int .i64 y] w fun e w' => e = .returned (.tuple #[.int .i64 n, .bool b]) ∧ Below w.heap.size w w' := by
 obtain ⟨B, hB⟩ : ∃ B, Ru.bas ⟨k, m, d, q, o, s, f, t⟩ y = B := ⟨_, rfl⟩
 have bb := bas_bd (r := ⟨k, m, d, q, o, s, f, t⟩) y hM
 rw [hB] at bb
 by_cases h0 : B = 0
 ·subst h0
  obtain rfl : 0 = n := by rw [← hn, inn_out hB]
  obtain rfl : false = b := by rw [← hb]; rfl
  exact uin_no k m d q o s f t y w hL hM hB
 ·have h1 : 0 < B := by omega
  unfold Ru.inn at hn
  rw [hB] at hn
  simp only at hn
  by_cases c : 1 ≤ shd s B ∧ shd s B ≤ 3652059
  ·have e : n = shd s B := by rw [← hn, if_pos ⟨h1, c.1, c.2⟩]
   obtain rfl : true = b := by rw [← hb, e]; exact (decide_eq_true (by omega)).symm
   exact zRk k m d q o s f t y B _ n true w hL hM hB ⟨by omega, bb.2⟩ hM.2.1 rfl (decide_eq_true c) (by rw [e]; rfl)
  ·have e : n = 0 := by rw [← hn, if_neg (fun a => c ⟨a.2.1, a.2.2⟩)]
   obtain rfl : false = b := by rw [← hb, e]; rfl
   exact zRk k m d q o s f t y B _ n false w hL hM hB ⟨by omega, bb.2⟩ hM.2.1 rfl (decide_eq_false c) (by rw [e]; rfl)
theorem uis_out (k m d q o s f t n : Int) (w : World) (hL : Lens w) (h : n < 1 ∨ 3652059 < n) : Calls Tryz.prog 166 #[.agg #[.int .i64 k, .int .i64 m, .int .i64 d, .int .i64 q, .int .i64 o, .int .i64 s, .int .i64 f, .int .i64 t], .int .i64 n] w fun e w' => e = .returned (.bool false) ∧ Below w.heap.size w w' := by
 have H := (Held.start w).add (f := zA8) hL
 have C := Lib.hid (fun v g => zAl n 0 0 0 3 v g (Or.inr ⟨h, rfl, rfl, rfl, rfl⟩))
 clear h hL
 go_enter Tryz.func166, Tryz.ntmps166
 replace H := H.oct (w.heap.size) (.int .i64 k) (.int .i64 m) (.int .i64 d) (.int .i64 q) (.int .i64 o) (.int .i64 s) (.int .i64 f) (.int .i64 t) 76 rfl
 go_wp2_with fail
 (with_reducible refine (C.out _ (H.lens i16_)).mono ?_)
 rintro e w1 ⟨rfl, hb1⟩
 replace H := H.below hb1
 clear hb1
 go_wp2_with fail
 replace H := (H.triple (w1.heap.size) (.int .i64 0) (.int .i64 0) (.int .i64 0) 86 rfl)
 go_ret
 exact ⟨rfl, H.old⟩
theorem uis_in (k m d q o s f t n Y M D : Int) (b : Bool) (w : World) (hL : Lens w) (hM : Ru.May ⟨k, m, d, q, o, s, f, t⟩) (hd : may Y M D) (hN : nb Y M D = n) (h0 : 0 < n) (hb : b = true ↔ Ru.Is ⟨k, m, d, q, o, s, f, t⟩ n) : Calls Tryz.prog 166 #[.agg #[.int .i64 k, .int .i64 m, .int .i64 d, .int .i64 q, .int .i64 o, .int .i64 s, .int .i64 f, .int .i64 t], .int .i64 n] w fun e w' => e = .returned (.bool b) ∧ Below w.heap.size w w' := by
 have H := (Held.start w).add (f := zA8) hL
 have C := Lib.hid (fun v g => zAl n Y M D 0 v g (Or.inl ⟨hd, hN, rfl⟩))
 have C2 := Lib.hid (fun y x c v (g : Lens v) h1 h2 => uin_is k m d q o s f t y x c v g hM h1 h2)
 have NR := Lib.hid (fun y (h : Ru.inn ⟨k, m, d, q, o, s, f, t⟩ y = n) => is_near hM h0 h hd hN)
 have HB := Lib.hid hb
 have hy : 1 ≤ Y ∧ Y ≤ 9999 := ⟨hd.1, hd.2.1⟩
 clear hb hd hN hL
 go_enter Tryz.func166, Tryz.ntmps166
 replace H := H.oct (w.heap.size) (.int .i64 k) (.int .i64 m) (.int .i64 d) (.int .i64 q) (.int .i64 o) (.int .i64 s) (.int .i64 f) (.int .i64 t) 76 rfl
 go_wp2_with fail
 (with_reducible refine (C.out _ (H.lens i16_)).mono ?_)
 rintro e w1 ⟨rfl, hb1⟩
 replace H := H.below hb1
 clear hb1
 go_wp2_with fail
 replace H := (H.triple (w1.heap.size) (.int .i64 Y) (.int .i64 M) (.int .i64 D) 86 rfl)
 go_loopw [7] (fun y W' => ∃ i : Int, y = .int .i64 i ∧ Y - 1 ≤ i ∧ i ≤ Y + 2 ∧ (∀ z, Y - 1 ≤ z → z < i → Ru.inn ⟨k, m, d, q, o, s, f, t⟩ z ≠ n) ∧ Held w (.cell (w1.heap.size) 0 (.int .i64 Y) :: .cell (w1.heap.size) 1 (.int .i64 M) :: .cell (w1.heap.size) 2 (.int .i64 D) :: .free (w1.heap.size) 0 :: .free (w1.heap.size) 1 :: .free (w1.heap.size) 2 :: .cell (w.heap.size) 0 (.int .i64 k) :: .cell (w.heap.size) 1 (.int .i64 m) :: .cell (w.heap.size) 2 (.int .i64 d) :: .cell (w.heap.size) 3 (.int .i64 q) :: .cell (w.heap.size) 4 (.int .i64 o) :: .cell (w.heap.size) 5 (.int .i64 s) :: .cell (w.heap.size) 6 (.int .i64 f) :: .cell (w.heap.size) 7 (.int .i64 t) :: .free (w.heap.size) 0 :: .free (w.heap.size) 1 :: .free (w.heap.size) 2 :: .free (w.heap.size) 3 :: .free (w.heap.size) 4 :: .free (w.heap.size) 5 :: .free (w.heap.size) 6 :: .free (w.heap.size) 7 :: zA8 :: []) W') (fun y _ => (Y + 2 - intOf y).toNat)
 case atStart => exact ⟨Y - 1, rfl, by omega, by omega, fun z a b => by omega, H⟩
 case round =>
  clear H
  obtain ⟨i, rfl, i1, i2, hz, H⟩ := hrel
  have ll := H.lt (w1.heap.size) 0 (.int .i64 Y) i0_
  have kk := H.cell (w1.heap.size) 0 (.int .i64 Y) i0_
  have c0 := H.cell (w.heap.size) 0 (.int .i64 k) i6_
  have c1 := H.cell (w.heap.size) 1 (.int .i64 m) i7_
  have c2 := H.cell (w.heap.size) 2 (.int .i64 d) i8_
  have c3 := H.cell (w.heap.size) 3 (.int .i64 q) i9_
  have c4 := H.cell (w.heap.size) 4 (.int .i64 o) i10_
  have c5 := H.cell (w.heap.size) 5 (.int .i64 s) i11_
  have c6 := H.cell (w.heap.size) 6 (.int .i64 f) i12_
  have c7 := H.cell (w.heap.size) 7 (.int .i64 t) i13_
  have HZ := Lib.hid hz
  clear hz
  by_cases hi : i ≤ Y + 1
  ·obtain ⟨x, HX⟩ : ∃ x, Hid (Ru.inn ⟨k, m, d, q, o, s, f, t⟩ i = x) := ⟨_, Lib.hid rfl⟩
   obtain ⟨c, HC⟩ : ∃ c, Hid (decide (0 < x) = c) := ⟨_, Lib.hid rfl⟩
   go_wp2_with fail
   (with_reducible refine (C2.out i x c _ (H.lens i22_) HX.out HC.out).mono ?_)
   rintro e w3 ⟨rfl, hb1⟩
   clear kk c0 c1 c2 c3 c4 c5 c6 c7 ll
   replace H := H.below hb1
   clear hb1
   have kk := H.cell (w1.heap.size) 0 (.int .i64 Y) i0_
   have c0 := H.cell (w.heap.size) 0 (.int .i64 k) i6_
   have c1 := H.cell (w.heap.size) 1 (.int .i64 m) i7_
   have c2 := H.cell (w.heap.size) 2 (.int .i64 d) i8_
   have c3 := H.cell (w.heap.size) 3 (.int .i64 q) i9_
   have c4 := H.cell (w.heap.size) 4 (.int .i64 o) i10_
   have c5 := H.cell (w.heap.size) 5 (.int .i64 s) i11_
   have c6 := H.cell (w.heap.size) 6 (.int .i64 f) i12_
   have c7 := H.cell (w.heap.size) 7 (.int .i64 t) i13_
   by_cases hx : x = n
   ·subst hx
    have e1 : b = true := HB.out.2 ⟨h0, i, HX.out⟩
    have e2 : c = true := by rw [← HC.out]; exact decide_eq_true h0
    subst e1
    subst e2
    go_wp2
    go_ret
    exact ⟨rfl, H.old⟩
   ·have hx2 : (x == n) = false := by simpa using hx
    have HY := Lib.hid hx
    clear hx
    cases c
    ·go_wp2
     go_roundw
     case rel => exact ⟨i + 1, rfl, by omega, by omega, fun z a b => by
      by_cases g : z = i
      ·subst g; rw [HX.out]; exact HY.out
      ·exact HZ.out z a (by omega), H⟩
     case measure => simp [intOf]; omega
    ·go_wp2
     go_roundw
     case rel => exact ⟨i + 1, rfl, by omega, by omega, fun z a b => by
      by_cases g : z = i
      ·subst g; rw [HX.out]; exact HY.out
      ·exact HZ.out z a (by omega), H⟩
     case measure => simp [intOf]; omega
  ·have e1 : b = false := by
    cases hbb : b with
    | false => rfl
    | true =>
     exfalso
     obtain ⟨-, z, hz⟩ := HB.out.1 hbb
     have := NR.out z hz
     exact HZ.out z (by omega) (by omega) hz
   subst e1
   go_wp2
   go_ret
   exact ⟨rfl, H.old⟩
theorem uis_is (k m d q o s f t n : Int) (b : Bool) (w : World) (hL : FactsU w) (hM : Ru.May ⟨k, m, d, q, o, s, f, t⟩) (hb : b = true ↔ Ru.Is ⟨k, m, d, q, o, s, f, t⟩ n) : Calls Tryz.prog 166 #[.agg #[.int .i64 k, .int .i64 m, .int .i64 d, .int .i64 q, .int .i64 o, .int .i64 s, .int .i64 f, .int .i64 t], .int .i64 n] w fun e w' => e = .returned (.bool b) ∧ Below w.heap.size w w' := by
 by_cases h : 1 ≤ n ∧ n ≤ 3652059
 ·obtain ⟨Y, M, D, h1, h2⟩ := zBg n h.1 h.2
  exact uis_in _ _ _ _ _ _ _ _ _ _ _ _ _ w hL hM h1 h2 (by omega) hb
 ·have e : b = false := by
   cases hbb : b with
   | false => rfl
   | true => exact absurd (ru_is_bd (hb.1 hbb)) h
  subst e
  exact uis_out _ _ _ _ _ _ _ _ _ w hL (by omega)
end Go.Proofs.YtpfgdfpaoldhcaaGreatDoor
