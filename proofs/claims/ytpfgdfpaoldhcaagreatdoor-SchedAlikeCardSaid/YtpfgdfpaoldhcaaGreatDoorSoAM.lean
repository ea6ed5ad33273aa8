/- Several texts in one: EaDay. -/
import Derived.Test.YtpfgdfpaoldhcaaGreatDoorSoAL
set_option maxHeartbeats 8000000
set_option maxRecDepth 100000
set_option linter.unusedVariables false
set_option linter.unusedSimpArgs false
namespace Go.Proofs.YtpfgdfpaoldhcaaGreatDoor
open Go.RowKit
theorem rem_30 (n r : Int) (w : World) (h : -1000000 ≤ n ∧ n ≤ 1000000) (hr : n % 30 = r) : Calls Tryz.prog 229 #[.int .i64 n, .int .i64 30] w fun e w' => e = .returned (.int .i64 r) ∧ w = w' := by
 have b := zCh n 30 (by decide)
 have e : r = (n.tmod 30 + 30) % 30 := by
  have := Int.mul_tdiv_add_tmod n 30
  omega
 clear hr
 go_enter Tryz.func229, Tryz.ntmps229
 go_wp2
 go_ret
 exact ⟨by rw [e]; rfl, rfl⟩
theorem rem_7 (n r : Int) (w : World) (h : -1000000 ≤ n ∧ n ≤ 1000000) (hr : n % 7 = r) : Calls Tryz.prog 229 #[.int .i64 n, .int .i64 7] w fun e w' => e = .returned (.int .i64 r) ∧ w = w' := by
 have b := zCh n 7 (by decide)
 have e : r = (n.tmod 7 + 7) % 7 := by
  have := Int.mul_tdiv_add_tmod n 7
  omega
 clear hr
 go_enter Tryz.func229, Tryz.ntmps229
 go_wp2
 go_ret
 exact ⟨by rw [e]; rfl, rfl⟩
theorem zM6 (n s : Int) (w : World) (h : 1 ≤ n ∧ n ≤ 4000000) (hs : sun (n + 1) = s) : Calls Tryz.prog 227 #[.int .i64 n] w fun e w' => e = .returned (.int .i64 s) ∧ w = w' := by
 obtain ⟨k, hk⟩ : ∃ k, wk n = k := ⟨_, rfl⟩
 have kb : 0 ≤ k ∧ k ≤ 6 := by unfold wk at hk; omega
 have hq : s = n + 7 - (k - 6) % 7 := by unfold sun at hs; unfold wk at hs hk; omega
 have K := Lib.hid hk
 clear hs hk
 go_enter Tryz.func227, Tryz.ntmps227
 go_wp2_with fail
 (with_reducible refine (zLu n _).mono ?_)
 rw [K.out]
 rintro e w1 ⟨rfl, rfl⟩
 have Q := Lib.hid hq
 clear hq
 go_wp2_with fail
 (with_reducible refine (rem_7 (k - 6) _ _ (by omega) rfl).mono ?_)
 rintro e w1 ⟨rfl, rfl⟩
 go_wp2_with fail
 go_ret
 exact ⟨by rw [Q.out]; rfl, rfl⟩
theorem moon_1 (y v r : Int) (A B : Nat) (w : World) (cA : w.cell? ⟨A, 0, none⟩ = some (.int .i64 (y))) (cB : w.cell? ⟨B, 0, none⟩ = some (.int .i64 (v))) (fB : w.frozen? ⟨B, 0, none⟩ = false) (hy : 1 ≤ y ∧ y ≤ 9999) (hr : y % 19 + 1 = r) :
  Calls Tryz.prog 230 #[.pointer (some ⟨A, 0, none⟩), .pointer (some ⟨B, 0, none⟩)] w fun e w' => e = .returned (.tuple #[]) ∧ w' = w.setCell ⟨B, 0, none⟩ (.int .i64 (r)) := by
 have lA := zA0 cA
 have lB := zA0 cB
 obtain ⟨h1, h2⟩ := hy
 have R := Lib.hid hr
 clear hr
 go_enter Tryz.func230, Tryz.ntmps230
 go_wp2
 (try simp only [Exit.inBlock, Exit.then]); refine bodyPost_end (results_none rfl _ _ _) rfl ?_
 exact ⟨rfl, by rw [← R.out]⟩
theorem moon_2 (y v r : Int) (A B : Nat) (w : World) (cA : w.cell? ⟨A, 0, none⟩ = some (.int .i64 (y))) (cB : w.cell? ⟨B, 0, none⟩ = some (.int .i64 (v))) (fB : w.frozen? ⟨B, 0, none⟩ = false) (hy : 1 ≤ y ∧ y ≤ 9999) (hr : y / 100 + 1 = r) :
  Calls Tryz.prog 231 #[.pointer (some ⟨A, 0, none⟩), .pointer (some ⟨B, 0, none⟩)] w fun e w' => e = .returned (.tuple #[]) ∧ w' = w.setCell ⟨B, 0, none⟩ (.int .i64 (r)) := by
 have lA := zA0 cA
 have lB := zA0 cB
 obtain ⟨h1, h2⟩ := hy
 have R := Lib.hid hr
 clear hr
 go_enter Tryz.func231, Tryz.ntmps231
 go_wp2
 (try simp only [Exit.inBlock, Exit.then]); refine bodyPost_end (results_none rfl _ _ _) rfl ?_
 exact ⟨rfl, by rw [← R.out]⟩
theorem moon_3 (y v r : Int) (A B : Nat) (w : World) (cA : w.cell? ⟨A, 0, none⟩ = some (.int .i64 (y))) (cB : w.cell? ⟨B, 0, none⟩ = some (.int .i64 (v))) (fB : w.frozen? ⟨B, 0, none⟩ = false) (hy : 1 ≤ y ∧ y ≤ 9999) (hr : 3 * y / 4 - 12 = r) :
  Calls Tryz.prog 232 #[.pointer (some ⟨A, 0, none⟩), .pointer (some ⟨B, 0, none⟩)] w fun e w' => e = .returned (.tuple #[]) ∧ w' = w.setCell ⟨B, 0, none⟩ (.int .i64 (r)) := by
 have lA := zA0 cA
 have lB := zA0 cB
 obtain ⟨h1, h2⟩ := hy
 have R := Lib.hid hr
 clear hr
 go_enter Tryz.func232, Tryz.ntmps232
 go_wp2
 (try simp only [Exit.inBlock, Exit.then]); refine bodyPost_end (results_none rfl _ _ _) rfl ?_
 exact ⟨rfl, by rw [← R.out]⟩
theorem moon_4 (y v r : Int) (A B : Nat) (w : World) (cA : w.cell? ⟨A, 0, none⟩ = some (.int .i64 (y))) (cB : w.cell? ⟨B, 0, none⟩ = some (.int .i64 (v))) (fB : w.frozen? ⟨B, 0, none⟩ = false) (hy : 1 ≤ y ∧ y ≤ 9999) (hr : (8 * y + 5) / 25 - 5 = r) :
  Calls Tryz.prog 233 #[.pointer (some ⟨A, 0, none⟩), .pointer (some ⟨B, 0, none⟩)] w fun e w' => e = .returned (.tuple #[]) ∧ w' = w.setCell ⟨B, 0, none⟩ (.int .i64 (r)) := by
 have lA := zA0 cA
 have lB := zA0 cB
 obtain ⟨h1, h2⟩ := hy
 have R := Lib.hid hr
 clear hr
 go_enter Tryz.func233, Tryz.ntmps233
 go_wp2
 (try simp only [Exit.inBlock, Exit.then]); refine bodyPost_end (results_none rfl _ _ _) rfl ?_
 exact ⟨rfl, by rw [← R.out]⟩
theorem moon_5 (g z x v r : Int) (A B C D : Nat) (w : World) (cA : w.cell? ⟨A, 0, none⟩ = some (.int .i64 (g))) (cB : w.cell? ⟨B, 0, none⟩ = some (.int .i64 (z))) (cC : w.cell? ⟨C, 0, none⟩ = some (.int .i64 (x))) (cD : w.cell? ⟨D, 0, none⟩ = some (.int .i64 (v))) (fD : w.frozen? ⟨D, 0, none⟩ = false)
  (hg : 1 ≤ g ∧ g ≤ 19) (hz : -5 ≤ z ∧ z ≤ 1000) (hx : -12 ≤ x ∧ x ≤ 1000) (hr : (11 * g + 20 + z - x) % 30 = r) :
  Calls Tryz.prog 234 #[.pointer (some ⟨A, 0, none⟩), .pointer (some ⟨B, 0, none⟩), .pointer (some ⟨C, 0, none⟩), .pointer (some ⟨D, 0, none⟩)] w fun e w' => e = .returned (.tuple #[]) ∧ w' = w.setCell ⟨D, 0, none⟩ (.int .i64 (r)) := by
 have lA := zA0 cA
 have lB := zA0 cB
 have lC := zA0 cC
 have lD := zA0 cD
 have R := Lib.hid hr
 clear hr
 go_enter Tryz.func234, Tryz.ntmps234
 go_wp2_with fail
 (with_reducible refine (rem_30 (11 * g + 20 + z - x) r _ (by omega) R.out).mono ?_)
 rintro e w1 ⟨rfl, rfl⟩
 go_wp2_with fail
 (try simp only [Exit.inBlock, Exit.then]); refine bodyPost_end (results_none rfl _ _ _) rfl ?_
 exact ⟨rfl, rfl⟩
theorem Held.put {w W : World} {fs gs : List Fact} {u0 : Value} (h : Held w fs W) (B : Nat) (u : Value) (hB : w.heap.size ≤ B) (hc : W.cell? ⟨B, 0, none⟩ = Option.some u0) (hs : ∀ f ∈ gs, f ∈ fs ∧ f.off B) : Held w (.cell B 0 u :: gs) (W.setCell ⟨B, 0, none⟩ u) :=
 Held.add (f := .cell B 0 u) ((h.sub fun f hf => (hs f hf).1).set B 0 u hB fun f hf => (hs f hf).2) (World.cell?_setCell_same' _ _ _ (by rw [hc]; rfl))
theorem moon_6a (g : Int) (A B : Nat) (w : World) (cA : w.cell? ⟨A, 0, none⟩ = some (.int .i64 24)) (cB : w.cell? ⟨B, 0, none⟩ = some (.int .i64 (g))) (fA : w.frozen? ⟨A, 0, none⟩ = false) :
  Calls Tryz.prog 235 #[.pointer (some ⟨A, 0, none⟩), .pointer (some ⟨B, 0, none⟩)] w fun e w' => e = .returned (.tuple #[]) ∧ w' = w.setCell ⟨A, 0, none⟩ (.int .i64 25) := by
 have lA := zA0 cA
 have lB := zA0 cB
 go_enter Tryz.func235, Tryz.ntmps235
 go_wp2
 (try simp only [Exit.inBlock, Exit.then]); refine bodyPost_end (results_none rfl _ _ _) rfl ?_
 exact ⟨rfl, rfl⟩
theorem moon_6b (g : Int) (A B : Nat) (w : World) (cA : w.cell? ⟨A, 0, none⟩ = some (.int .i64 25)) (cB : w.cell? ⟨B, 0, none⟩ = some (.int .i64 (g))) (fA : w.frozen? ⟨A, 0, none⟩ = false) (hg : 11 < g) :
  Calls Tryz.prog 235 #[.pointer (some ⟨A, 0, none⟩), .pointer (some ⟨B, 0, none⟩)] w fun e w' => e = .returned (.tuple #[]) ∧ w' = w.setCell ⟨A, 0, none⟩ (.int .i64 26) := by
 have lA := zA0 cA
 have lB := zA0 cB
 have t1 : decide (g > 11) = true := by simp; omega
 go_enter Tryz.func235, Tryz.ntmps235
 go_wp2
 (try simp only [Exit.inBlock, Exit.then]); refine bodyPost_end (results_none rfl _ _ _) rfl ?_
 exact ⟨rfl, rfl⟩
theorem moon_6c (g : Int) (A B : Nat) (w : World) (cA : w.cell? ⟨A, 0, none⟩ = some (.int .i64 25)) (cB : w.cell? ⟨B, 0, none⟩ = some (.int .i64 (g))) (fA : w.frozen? ⟨A, 0, none⟩ = false) (hg : ¬ 11 < g) :
  Calls Tryz.prog 235 #[.pointer (some ⟨A, 0, none⟩), .pointer (some ⟨B, 0, none⟩)] w fun e w' => e = .returned (.tuple #[]) ∧ w' = w := by
 have lA := zA0 cA
 have lB := zA0 cB
 have t1 : decide (g > 11) = false := by simp; omega
 go_enter Tryz.func235, Tryz.ntmps235
 go_wp2
 (try simp only [Exit.inBlock, Exit.then]); refine bodyPost_end (results_none rfl _ _ _) rfl ?_
 exact ⟨rfl, rfl⟩
theorem moon_6d (u g : Int) (A B : Nat) (w : World) (cA : w.cell? ⟨A, 0, none⟩ = some (.int .i64 u)) (cB : w.cell? ⟨B, 0, none⟩ = some (.int .i64 (g))) (fA : w.frozen? ⟨A, 0, none⟩ = false) (h4 : u ≠ 24) (h5 : u ≠ 25) :
  Calls Tryz.prog 235 #[.pointer (some ⟨A, 0, none⟩), .pointer (some ⟨B, 0, none⟩)] w fun e w' => e = .returned (.tuple #[]) ∧ w' = w := by
 have lA := zA0 cA
 have lB := zA0 cB
 have t1 : (u == 25) = false := by simpa using h5
 have t2 : (u == 24) = false := by simpa using h4
 go_enter Tryz.func235, Tryz.ntmps235
 go_wp2
 (try simp only [Exit.inBlock, Exit.then]); refine bodyPost_end (results_none rfl _ _ _) rfl ?_
 exact ⟨rfl, rfl⟩
theorem moon_6 (u g r : Int) (A B : Nat) (w : World) (cA : w.cell? ⟨A, 0, none⟩ = some (.int .i64 (u))) (cB : w.cell? ⟨B, 0, none⟩ = some (.int .i64 (g))) (fA : w.frozen? ⟨A, 0, none⟩ = false) (hr : (if u = 25 ∧ 11 < g ∨ u = 24 then u + 1 else u) = r) :
  Calls Tryz.prog 235 #[.pointer (some ⟨A, 0, none⟩), .pointer (some ⟨B, 0, none⟩)] w fun e w' => e = .returned (.tuple #[]) ∧ (w' = w.setCell ⟨A, 0, none⟩ (.int .i64 (r)) ∨ w' = w ∧ u = r) := by
 by_cases h4 : u = 24
 ·subst h4
  rw [if_pos (Or.inr rfl)] at hr
  subst hr
  exact (moon_6a g A B w cA cB fA).mono fun e w' h => ⟨h.1, Or.inl h.2⟩
 ·by_cases h5 : u = 25
  ·subst h5
   by_cases hg : 11 < g
   ·rw [if_pos (Or.inl ⟨rfl, hg⟩)] at hr
    subst hr
    exact (moon_6b g A B w cA cB fA hg).mono fun e w' h => ⟨h.1, Or.inl h.2⟩
   ·rw [if_neg (by omega)] at hr
    exact (moon_6c g A B w cA cB fA hg).mono fun e w' h => ⟨h.1, Or.inr ⟨h.2, hr⟩⟩
  ·rw [if_neg (by omega)] at hr
   exact (moon_6d u g A B w cA cB fA h4 h5).mono fun e w' h => ⟨h.1, Or.inr ⟨h.2, hr⟩⟩
theorem moon_7 (u v : Int) (A B : Nat) (w : World) (cA : w.cell? ⟨A, 0, none⟩ = some (.int .i64 (u))) (cB : w.cell? ⟨B, 0, none⟩ = some (.int .i64 (v))) (fB : w.frozen? ⟨B, 0, none⟩ = false) (hu : 0 ≤ u ∧ u ≤ 30) :
  Calls Tryz.prog 236 #[.pointer (some ⟨A, 0, none⟩), .pointer (some ⟨B, 0, none⟩)] w fun e w' => e = .returned (.tuple #[]) ∧ w' = w.setCell ⟨B, 0, none⟩ (.int .i64 (44 - u)) := by
 have lA := zA0 cA
 have lB := zA0 cB
 go_enter Tryz.func236, Tryz.ntmps236
 go_wp2
 (try simp only [Exit.inBlock, Exit.then]); refine bodyPost_end (results_none rfl _ _ _) rfl ?_
 exact ⟨rfl, rfl⟩
theorem moon_8a (u : Int) (A : Nat) (w : World) (cA : w.cell? ⟨A, 0, none⟩ = some (.int .i64 (u))) (fA : w.frozen? ⟨A, 0, none⟩ = false) (hu : 0 ≤ u ∧ u ≤ 44) (h : u < 21) :
  Calls Tryz.prog 237 #[.pointer (some ⟨A, 0, none⟩)] w fun e w' => e = .returned (.tuple #[]) ∧ w' = w.setCell ⟨A, 0, none⟩ (.int .i64 (u + 30)) := by
 have lA := zA0 cA
 go_enter Tryz.func237, Tryz.ntmps237
 go_wp2
 (try simp only [Exit.inBlock, Exit.then]); refine bodyPost_end (results_none rfl _ _ _) rfl ?_
 exact ⟨rfl, rfl⟩
theorem moon_8b (u : Int) (A : Nat) (w : World) (cA : w.cell? ⟨A, 0, none⟩ = some (.int .i64 (u))) (fA : w.frozen? ⟨A, 0, none⟩ = false) (hu : 0 ≤ u ∧ u ≤ 44) (h : ¬ u < 21) :
  Calls Tryz.prog 237 #[.pointer (some ⟨A, 0, none⟩)] w fun e w' => e = .returned (.tuple #[]) ∧ w' = w := by
 have lA := zA0 cA
 go_enter Tryz.func237, Tryz.ntmps237
 go_wp2
 (try simp only [Exit.inBlock, Exit.then]); refine bodyPost_end (results_none rfl _ _ _) rfl ?_
 exact ⟨rfl, rfl⟩
theorem moon_8 (u r : Int) (A : Nat) (w : World) (cA : w.cell? ⟨A, 0, none⟩ = some (.int .i64 (u))) (fA : w.frozen? ⟨A, 0, none⟩ = false) (hu : 0 ≤ u ∧ u ≤ 44) (hr : (if u < 21 then u + 30 else u) = r) :
  Calls Tryz.prog 237 #[.pointer (some ⟨A, 0, none⟩)] w fun e w' => e = .returned (.tuple #[]) ∧ (w' = w.setCell ⟨A, 0, none⟩ (.int .i64 (r)) ∨ w' = w ∧ u = r) := by
 by_cases h : u < 21
 ·rw [if_pos h] at hr
  subst hr
  exact (moon_8a u A w cA fA hu h).mono fun e w' h => ⟨h.1, Or.inl h.2⟩
 ·rw [if_neg h] at hr
  exact (moon_8b u A w cA fA hu h).mono fun e w' h => ⟨h.1, Or.inr ⟨h.2, hr⟩⟩
theorem step_0 (p0 p1 p2 p3 p4 p5 p6 p7 : Array Value) (w : World) : (Instr.index 269 (.agg #[.func (.func 230) #[] p0, .func (.func 231) #[] p1, .func (.func 232) #[] p2, .func (.func 233) #[] p3, .func (.func 234) #[] p4, .func (.func 235) #[] p5, .func (.func 236) #[] p6, .func (.func 237) #[] p7]) (.int .i64 0)).run Tryz.prog w = .ok (.func (.func 230) #[] p0) w := by kernel_rfl
theorem step_1 (p0 p1 p2 p3 p4 p5 p6 p7 : Array Value) (w : World) : (Instr.index 269 (.agg #[.func (.func 230) #[] p0, .func (.func 231) #[] p1, .func (.func 232) #[] p2, .func (.func 233) #[] p3, .func (.func 234) #[] p4, .func (.func 235) #[] p5, .func (.func 236) #[] p6, .func (.func 237) #[] p7]) (.int .i64 1)).run Tryz.prog w = .ok (.func (.func 231) #[] p1) w := by kernel_rfl
theorem step_2 (p0 p1 p2 p3 p4 p5 p6 p7 : Array Value) (w : World) : (Instr.index 269 (.agg #[.func (.func 230) #[] p0, .func (.func 231) #[] p1, .func (.func 232) #[] p2, .func (.func 233) #[] p3, .func (.func 234) #[] p4, .func (.func 235) #[] p5, .func (.func 236) #[] p6, .func (.func 237) #[] p7]) (.int .i64 2)).run Tryz.prog w = .ok (.func (.func 232) #[] p2) w := by kernel_rfl
theorem step_3 (p0 p1 p2 p3 p4 p5 p6 p7 : Array Value) (w : World) : (Instr.index 269 (.agg #[.func (.func 230) #[] p0, .func (.func 231) #[] p1, .func (.func 232) #[] p2, .func (.func 233) #[] p3, .func (.func 234) #[] p4, .func (.func 235) #[] p5, .func (.func 236) #[] p6, .func (.func 237) #[] p7]) (.int .i64 3)).run Tryz.prog w = .ok (.func (.func 233) #[] p3) w := by kernel_rfl
theorem step_4 (p0 p1 p2 p3 p4 p5 p6 p7 : Array Value) (w : World) : (Instr.index 269 (.agg #[.func (.func 230) #[] p0, .func (.func 231) #[] p1, .func (.func 232) #[] p2, .func (.func 233) #[] p3, .func (.func 234) #[] p4, .func (.func 235) #[] p5, .func (.func 236) #[] p6, .func (.func 237) #[] p7]) (.int .i64 4)).run Tryz.prog w = .ok (.func (.func 234) #[] p4) w := by kernel_rfl
theorem step_5 (p0 p1 p2 p3 p4 p5 p6 p7 : Array Value) (w : World) : (Instr.index 269 (.agg #[.func (.func 230) #[] p0, .func (.func 231) #[] p1, .func (.func 232) #[] p2, .func (.func 233) #[] p3, .func (.func 234) #[] p4, .func (.func 235) #[] p5, .func (.func 236) #[] p6, .func (.func 237) #[] p7]) (.int .i64 5)).run Tryz.prog w = .ok (.func (.func 235) #[] p5) w := by kernel_rfl
theorem step_6 (p0 p1 p2 p3 p4 p5 p6 p7 : Array Value) (w : World) : (Instr.index 269 (.agg #[.func (.func 230) #[] p0, .func (.func 231) #[] p1, .func (.func 232) #[] p2, .func (.func 233) #[] p3, .func (.func 234) #[] p4, .func (.func 235) #[] p5, .func (.func 236) #[] p6, .func (.func 237) #[] p7]) (.int .i64 6)).run Tryz.prog w = .ok (.func (.func 236) #[] p6) w := by kernel_rfl
theorem step_7 (p0 p1 p2 p3 p4 p5 p6 p7 : Array Value) (w : World) : (Instr.index 269 (.agg #[.func (.func 230) #[] p0, .func (.func 231) #[] p1, .func (.func 232) #[] p2, .func (.func 233) #[] p3, .func (.func 234) #[] p4, .func (.func 235) #[] p5, .func (.func 236) #[] p6, .func (.func 237) #[] p7]) (.int .i64 7)).run Tryz.prog w = .ok (.func (.func 237) #[] p7) w := by kernel_rfl
theorem moon_any (y : Int) (w : World) (h1 : 1 ≤ y) (h2 : y ≤ 9999) :
  Calls Tryz.prog 228 #[.int .i64 y] w fun e w' => e = .returned (.int .i64 (eaN y)) ∧ Below w.heap.size w w' := by
 have hmf : ∀ (fn : Fn) (first cap : Array Value) (w : World), (Instr.makeFunc fn first cap).run Tryz.prog w = .ok (.func fn first cap) w := fun _ _ _ _ => rfl
 have sf : ∀ (a : Addr) (f : FuncId) (s cs : Array Value) (W : World), (store a (.func (.func f) s cs)).run Tryz.prog W = stored Tryz.prog W a (.func (.func f) s cs) .plain := fun a f s cs W => run_store _ W a _ _ rfl
 have ix0 := step_0
 have ix1 := step_1
 have ix2 := step_2
 have ix3 := step_3
 have ix4 := step_4
 have ix5 := step_5
 have ix6 := step_6
 have ix7 := step_7
 have H0 := Held.start w
 replace H0 := H0.lone (w.heap.size) (.int .i64 (y)) 3 (by simp)
 replace H0 := H0.lone (w.heap.size + 1) (.int .i64 (0)) 3 (by simp)
 replace H0 := H0.lone (w.heap.size + 1 + 1) (.int .i64 (0)) 3 (by simp)
 replace H0 := H0.lone (w.heap.size + 1 + 1 + 1) (.int .i64 (0)) 3 (by simp)
 replace H0 := H0.lone (w.heap.size + 1 + 1 + 1 + 1) (.int .i64 (0)) 3 (by simp)
 replace H0 := H0.lone (w.heap.size + 1 + 1 + 1 + 1 + 1) (.int .i64 (0)) 3 (by simp)
 replace H0 := H0.lone (w.heap.size + 1 + 1 + 1 + 1 + 1 + 1) (.int .i64 (0)) 3 (by simp)
 have ra : 0 ≤ eaR y ∧ eaR y < 30 := by unfold eaR; omega
 have rb : 0 ≤ eaE y ∧ eaE y ≤ 30 := by unfold eaE; split <;> omega
 go_enter Tryz.func228, Tryz.ntmps228
 go_wp2_with fail
 refine wp_loop_rounds 9 ?_
 replace H0 := fun o => H0.alloc o
 rw [rounds_succ]
 go_wp2_with fail
 have c_y := fun o => (H0 o).cell (w.heap.size) 0 (.int .i64 (y)) (by repeat (first | with_reducible exact List.mem_cons_self | with_reducible apply List.mem_cons_of_mem))
 have c_g := fun o => (H0 o).cell (w.heap.size + 1) 0 (.int .i64 (0)) (by repeat (first | with_reducible exact List.mem_cons_self | with_reducible apply List.mem_cons_of_mem))
 have f_g := fun o => (H0 o).frozen (w.heap.size + 1) 0 (by repeat (first | with_reducible exact List.mem_cons_self | with_reducible apply List.mem_cons_of_mem))
 (with_reducible refine (moon_1 y 0 _ _ _ _ (c_y _) (c_g _) (f_g _) ⟨h1, h2⟩ rfl).mono ?_)
 rintro e w0' ⟨rfl, hw⟩
 have H1 : Held w [.cell (w.heap.size + 1) 0 (.int .i64 (y % 19 + 1)), .cell (w.heap.size + 1 + 1 + 1 + 1 + 1 + 1) 0 (.int .i64 (0)), .free (w.heap.size + 1 + 1 + 1 + 1 + 1 + 1) 0, .cell (w.heap.size + 1 + 1 + 1 + 1 + 1) 0 (.int .i64 (0)), .free (w.heap.size + 1 + 1 + 1 + 1 + 1) 0, .cell (w.heap.size + 1 + 1 + 1 + 1) 0 (.int .i64 (0)), .free (w.heap.size + 1 + 1 + 1 + 1) 0, .cell (w.heap.size + 1 + 1 + 1) 0 (.int .i64 (0)), .free (w.heap.size + 1 + 1 + 1) 0, .cell (w.heap.size + 1 + 1) 0 (.int .i64 (0)), .free (w.heap.size + 1 + 1) 0, .free (w.heap.size + 1) 0, .cell (w.heap.size) 0 (.int .i64 (y)), .free (w.heap.size) 0] w0' := by rw [hw]; exact (H0 _).put (gs := [.cell (w.heap.size + 1 + 1 + 1 + 1 + 1 + 1) 0 (.int .i64 (0)), .free (w.heap.size + 1 + 1 + 1 + 1 + 1 + 1) 0, .cell (w.heap.size + 1 + 1 + 1 + 1 + 1) 0 (.int .i64 (0)), .free (w.heap.size + 1 + 1 + 1 + 1 + 1) 0, .cell (w.heap.size + 1 + 1 + 1 + 1) 0 (.int .i64 (0)), .free (w.heap.size + 1 + 1 + 1 + 1) 0, .cell (w.heap.size + 1 + 1 + 1) 0 (.int .i64 (0)), .free (w.heap.size + 1 + 1 + 1) 0, .cell (w.heap.size + 1 + 1) 0 (.int .i64 (0)), .free (w.heap.size + 1 + 1) 0, .free (w.heap.size + 1) 0, .cell (w.heap.size) 0 (.int .i64 (y)), .free (w.heap.size) 0]) (w.heap.size + 1) (.int .i64 (y % 19 + 1)) (by omega) (c_g _) (by intro f hf; simp only [List.mem_cons, List.not_mem_nil, or_false] at hf; rcases hf with rfl | rfl | rfl | rfl | rfl | rfl | rfl | rfl | rfl | rfl | rfl | rfl | rfl <;> exact ⟨(by repeat (first | with_reducible exact List.mem_cons_self | with_reducible apply List.mem_cons_of_mem)), by simp [Fact.off] <;> omega⟩)
 clear hw H0 f_g c_y c_g
 go_wp2_with fail
 (try simp only [Exit.inBlock, Exit.then])
 rw [rounds_succ]
 go_wp2_with fail
 have c_y := H1.cell (w.heap.size) 0 (.int .i64 (y))
 have c_c := H1.cell (w.heap.size + 1 + 1) 0 (.int .i64 (0))
 have f_c := H1.frozen (w.heap.size + 1 + 1) 0
 (with_reducible refine (moon_2 y 0 _ _ _ _ c_y c_c f_c ⟨h1, h2⟩ rfl).mono ?_)
 rintro e w1' ⟨rfl, hw⟩
 have H2 : Held w [.cell (w.heap.size + 1 + 1) 0 (.int .i64 (y / 100 + 1)), .cell (w.heap.size + 1) 0 (.int .i64 (y % 19 + 1)), .cell (w.heap.size + 1 + 1 + 1 + 1 + 1 + 1) 0 (.int .i64 (0)), .free (w.heap.size + 1 + 1 + 1 + 1 + 1 + 1) 0, .cell (w.heap.size + 1 + 1 + 1 + 1 + 1) 0 (.int .i64 (0)), .free (w.heap.size + 1 + 1 + 1 + 1 + 1) 0, .cell (w.heap.size + 1 + 1 + 1 + 1) 0 (.int .i64 (0)), .free (w.heap.size + 1 + 1 + 1 + 1) 0, .cell (w.heap.size + 1 + 1 + 1) 0 (.int .i64 (0)), .free (w.heap.size + 1 + 1 + 1) 0, .free (w.heap.size + 1 + 1) 0, .free (w.heap.size + 1) 0, .cell (w.heap.size) 0 (.int .i64 (y)), .free (w.heap.size) 0] w1' := by rw [hw]; exact H1.put (gs := [.cell (w.heap.size + 1) 0 (.int .i64 (y % 19 + 1)), .cell (w.heap.size + 1 + 1 + 1 + 1 + 1 + 1) 0 (.int .i64 (0)), .free (w.heap.size + 1 + 1 + 1 + 1 + 1 + 1) 0, .cell (w.heap.size + 1 + 1 + 1 + 1 + 1) 0 (.int .i64 (0)), .free (w.heap.size + 1 + 1 + 1 + 1 + 1) 0, .cell (w.heap.size + 1 + 1 + 1 + 1) 0 (.int .i64 (0)), .free (w.heap.size + 1 + 1 + 1 + 1) 0, .cell (w.heap.size + 1 + 1 + 1) 0 (.int .i64 (0)), .free (w.heap.size + 1 + 1 + 1) 0, .free (w.heap.size + 1 + 1) 0, .free (w.heap.size + 1) 0, .cell (w.heap.size) 0 (.int .i64 (y)), .free (w.heap.size) 0]) (w.heap.size + 1 + 1) (.int .i64 (y / 100 + 1)) (by omega) c_c (by intro f hf; simp only [List.mem_cons, List.not_mem_nil, or_false] at hf; rcases hf with rfl | rfl | rfl | rfl | rfl | rfl | rfl | rfl | rfl | rfl | rfl | rfl | rfl <;> exact ⟨(by repeat (first | with_reducible exact List.mem_cons_self | with_reducible apply List.mem_cons_of_mem)), by simp [Fact.off] <;> omega⟩)
 clear hw H1 f_c c_y c_c
 go_wp2_with fail
 (try simp only [Exit.inBlock, Exit.then])
 rw [rounds_succ]
 go_wp2_with fail
 have c_c := H2.cell (w.heap.size + 1 + 1) 0 (.int .i64 (y / 100 + 1))
 have c_x := H2.cell (w.heap.size + 1 + 1 + 1) 0 (.int .i64 (0))
 have f_x := H2.frozen (w.heap.size + 1 + 1 + 1) 0
 (with_reducible refine (moon_3 (y / 100 + 1) 0 _ _ _ _ c_c c_x f_x (by omega) rfl).mono ?_)
 rintro e w2' ⟨rfl, hw⟩
 have H3 : Held w [.cell (w.heap.size + 1 + 1 + 1) 0 (.int .i64 (3 * (y / 100 + 1) / 4 - 12)), .cell (w.heap.size + 1 + 1) 0 (.int .i64 (y / 100 + 1)), .cell (w.heap.size + 1) 0 (.int .i64 (y % 19 + 1)), .cell (w.heap.size + 1 + 1 + 1 + 1 + 1 + 1) 0 (.int .i64 (0)), .free (w.heap.size + 1 + 1 + 1 + 1 + 1 + 1) 0, .cell (w.heap.size + 1 + 1 + 1 + 1 + 1) 0 (.int .i64 (0)), .free (w.heap.size + 1 + 1 + 1 + 1 + 1) 0, .cell (w.heap.size + 1 + 1 + 1 + 1) 0 (.int .i64 (0)), .free (w.heap.size + 1 + 1 + 1 + 1) 0, .free (w.heap.size + 1 + 1 + 1) 0, .free (w.heap.size + 1 + 1) 0, .free (w.heap.size + 1) 0, .cell (w.heap.size) 0 (.int .i64 (y)), .free (w.heap.size) 0] w2' := by rw [hw]; exact H2.put (gs := [.cell (w.heap.size + 1 + 1) 0 (.int .i64 (y / 100 + 1)), .cell (w.heap.size + 1) 0 (.int .i64 (y % 19 + 1)), .cell (w.heap.size + 1 + 1 + 1 + 1 + 1 + 1) 0 (.int .i64 (0)), .free (w.heap.size + 1 + 1 + 1 + 1 + 1 + 1) 0, .cell (w.heap.size + 1 + 1 + 1 + 1 + 1) 0 (.int .i64 (0)), .free (w.heap.size + 1 + 1 + 1 + 1 + 1) 0, .cell (w.heap.size + 1 + 1 + 1 + 1) 0 (.int .i64 (0)), .free (w.heap.size + 1 + 1 + 1 + 1) 0, .free (w.heap.size + 1 + 1 + 1) 0, .free (w.heap.size + 1 + 1) 0, .free (w.heap.size + 1) 0, .cell (w.heap.size) 0 (.int .i64 (y)), .free (w.heap.size) 0]) (w.heap.size + 1 + 1 + 1) (.int .i64 (3 * (y / 100 + 1) / 4 - 12)) (by omega) c_x (by intro f hf; simp only [List.mem_cons, List.not_mem_nil, or_false] at hf; rcases hf with rfl | rfl | rfl | rfl | rfl | rfl | rfl | rfl | rfl | rfl | rfl | rfl | rfl <;> exact ⟨(by repeat (first | with_reducible exact List.mem_cons_self | with_reducible apply List.mem_cons_of_mem)), by simp [Fact.off] <;> omega⟩)
 clear hw H2 f_x c_c c_x
 go_wp2_with fail
 (try simp only [Exit.inBlock, Exit.then])
 rw [rounds_succ]
 go_wp2_with fail
 have c_c := H3.cell (w.heap.size + 1 + 1) 0 (.int .i64 (y / 100 + 1))
 have c_z := H3.cell (w.heap.size + 1 + 1 + 1 + 1) 0 (.int .i64 (0))
 have f_z := H3.frozen (w.heap.size + 1 + 1 + 1 + 1) 0
 (with_reducible refine (moon_4 (y / 100 + 1) 0 _ _ _ _ c_c c_z f_z (by omega) rfl).mono ?_)
 rintro e w3' ⟨rfl, hw⟩
 have H4 : Held w [.cell (w.heap.size + 1 + 1 + 1 + 1) 0 (.int .i64 ((8 * (y / 100 + 1) + 5) / 25 - 5)), .cell (w.heap.size + 1 + 1 + 1) 0 (.int .i64 (3 * (y / 100 + 1) / 4 - 12)), .cell (w.heap.size + 1 + 1) 0 (.int .i64 (y / 100 + 1)), .cell (w.heap.size + 1) 0 (.int .i64 (y % 19 + 1)), .cell (w.heap.size + 1 + 1 + 1 + 1 + 1 + 1) 0 (.int .i64 (0)), .free (w.heap.size + 1 + 1 + 1 + 1 + 1 + 1) 0, .cell (w.heap.size + 1 + 1 + 1 + 1 + 1) 0 (.int .i64 (0)), .free (w.heap.size + 1 + 1 + 1 + 1 + 1) 0, .free (w.heap.size + 1 + 1 + 1 + 1) 0, .free (w.heap.size + 1 + 1 + 1) 0, .free (w.heap.size + 1 + 1) 0, .free (w.heap.size + 1) 0, .cell (w.heap.size) 0 (.int .i64 (y)), .free (w.heap.size) 0] w3' := by rw [hw]; exact H3.put (gs := [.cell (w.heap.size + 1 + 1 + 1) 0 (.int .i64 (3 * (y / 100 + 1) / 4 - 12)), .cell (w.heap.size + 1 + 1) 0 (.int .i64 (y / 100 + 1)), .cell (w.heap.size + 1) 0 (.int .i64 (y % 19 + 1)), .cell (w.heap.size + 1 + 1 + 1 + 1 + 1 + 1) 0 (.int .i64 (0)), .free (w.heap.size + 1 + 1 + 1 + 1 + 1 + 1) 0, .cell (w.heap.size + 1 + 1 + 1 + 1 + 1) 0 (.int .i64 (0)), .free (w.heap.size + 1 + 1 + 1 + 1 + 1) 0, .free (w.heap.size + 1 + 1 + 1 + 1) 0, .free (w.heap.size + 1 + 1 + 1) 0, .free (w.heap.size + 1 + 1) 0, .free (w.heap.size + 1) 0, .cell (w.heap.size) 0 (.int .i64 (y)), .free (w.heap.size) 0]) (w.heap.size + 1 + 1 + 1 + 1) (.int .i64 ((8 * (y / 100 + 1) + 5) / 25 - 5)) (by omega) c_z (by intro f hf; simp only [List.mem_cons, List.not_mem_nil, or_false] at hf; rcases hf with rfl | rfl | rfl | rfl | rfl | rfl | rfl | rfl | rfl | rfl | rfl | rfl | rfl <;> exact ⟨(by repeat (first | with_reducible exact List.mem_cons_self | with_reducible apply List.mem_cons_of_mem)), by simp [Fact.off] <;> omega⟩)
 clear hw H3 f_z c_c c_z
 go_wp2_with fail
 (try simp only [Exit.inBlock, Exit.then])
 rw [rounds_succ]
 go_wp2_with fail
 have c_g := H4.cell (w.heap.size + 1) 0 (.int .i64 (y % 19 + 1))
 have c_z := H4.cell (w.heap.size + 1 + 1 + 1 + 1) 0 (.int .i64 ((8 * (y / 100 + 1) + 5) / 25 - 5))
 have c_x := H4.cell (w.heap.size + 1 + 1 + 1) 0 (.int .i64 (3 * (y / 100 + 1) / 4 - 12))
 have c_e := H4.cell (w.heap.size + 1 + 1 + 1 + 1 + 1) 0 (.int .i64 (0))
 have f_e := H4.frozen (w.heap.size + 1 + 1 + 1 + 1 + 1) 0
 (with_reducible refine (moon_5 (y % 19 + 1) ((8 * (y / 100 + 1) + 5) / 25 - 5) (3 * (y / 100 + 1) / 4 - 12) 0 (eaR y) _ _ _ _ _ c_g c_z c_x c_e f_e (by omega) (by omega) (by omega) rfl).mono ?_)
 rintro e w4' ⟨rfl, hw⟩
 have H5 : Held w [.cell (w.heap.size + 1 + 1 + 1 + 1 + 1) 0 (.int .i64 (eaR y)), .cell (w.heap.size + 1 + 1 + 1 + 1) 0 (.int .i64 ((8 * (y / 100 + 1) + 5) / 25 - 5)), .cell (w.heap.size + 1 + 1 + 1) 0 (.int .i64 (3 * (y / 100 + 1) / 4 - 12)), .cell (w.heap.size + 1 + 1) 0 (.int .i64 (y / 100 + 1)), .cell (w.heap.size + 1) 0 (.int .i64 (y % 19 + 1)), .cell (w.heap.size + 1 + 1 + 1 + 1 + 1 + 1) 0 (.int .i64 (0)), .free (w.heap.size + 1 + 1 + 1 + 1 + 1 + 1) 0, .free (w.heap.size + 1 + 1 + 1 + 1 + 1) 0, .free (w.heap.size + 1 + 1 + 1 + 1) 0, .free (w.heap.size + 1 + 1 + 1) 0, .free (w.heap.size + 1 + 1) 0, .free (w.heap.size + 1) 0, .cell (w.heap.size) 0 (.int .i64 (y)), .free (w.heap.size) 0] w4' := by rw [hw]; exact H4.put (gs := [.cell (w.heap.size + 1 + 1 + 1 + 1) 0 (.int .i64 ((8 * (y / 100 + 1) + 5) / 25 - 5)), .cell (w.heap.size + 1 + 1 + 1) 0 (.int .i64 (3 * (y / 100 + 1) / 4 - 12)), .cell (w.heap.size + 1 + 1) 0 (.int .i64 (y / 100 + 1)), .cell (w.heap.size + 1) 0 (.int .i64 (y % 19 + 1)), .cell (w.heap.size + 1 + 1 + 1 + 1 + 1 + 1) 0 (.int .i64 (0)), .free (w.heap.size + 1 + 1 + 1 + 1 + 1 + 1) 0, .free (w.heap.size + 1 + 1 + 1 + 1 + 1) 0, .free (w.heap.size + 1 + 1 + 1 + 1) 0, .free (w.heap.size + 1 + 1 + 1) 0, .free (w.heap.size + 1 + 1) 0, .free (w.heap.size + 1) 0, .cell (w.heap.size) 0 (.int .i64 (y)), .free (w.heap.size) 0]) (w.heap.size + 1 + 1 + 1 + 1 + 1) (.int .i64 (eaR y)) (by omega) c_e (by intro f hf; simp only [List.mem_cons, List.not_mem_nil, or_false] at hf; rcases hf with rfl | rfl | rfl | rfl | rfl | rfl | rfl | rfl | rfl | rfl | rfl | rfl | rfl <;> exact ⟨(by repeat (first | with_reducible exact List.mem_cons_self | with_reducible apply List.mem_cons_of_mem)), by simp [Fact.off] <;> omega⟩)
 clear hw H4 f_e c_g c_z c_x c_e
 go_wp2_with fail
 (try simp only [Exit.inBlock, Exit.then])
 rw [rounds_succ]
 go_wp2_with fail
 have c_e := H5.cell (w.heap.size + 1 + 1 + 1 + 1 + 1) 0 (.int .i64 (eaR y))
 have c_g := H5.cell (w.heap.size + 1) 0 (.int .i64 (y % 19 + 1))
 have f_e := H5.frozen (w.heap.size + 1 + 1 + 1 + 1 + 1) 0
 (with_reducible refine (moon_6 (eaR y) (y % 19 + 1) (eaE y) _ _ _ c_e c_g f_e rfl).mono ?_)
 rintro e w5' ⟨rfl, hw⟩
 have H6 : Held w [.cell (w.heap.size + 1 + 1 + 1 + 1 + 1) 0 (.int .i64 (eaE y)), .cell (w.heap.size + 1 + 1 + 1 + 1) 0 (.int .i64 ((8 * (y / 100 + 1) + 5) / 25 - 5)), .cell (w.heap.size + 1 + 1 + 1) 0 (.int .i64 (3 * (y / 100 + 1) / 4 - 12)), .cell (w.heap.size + 1 + 1) 0 (.int .i64 (y / 100 + 1)), .cell (w.heap.size + 1) 0 (.int .i64 (y % 19 + 1)), .cell (w.heap.size + 1 + 1 + 1 + 1 + 1 + 1) 0 (.int .i64 (0)), .free (w.heap.size + 1 + 1 + 1 + 1 + 1 + 1) 0, .free (w.heap.size + 1 + 1 + 1 + 1 + 1) 0, .free (w.heap.size + 1 + 1 + 1 + 1) 0, .free (w.heap.size + 1 + 1 + 1) 0, .free (w.heap.size + 1 + 1) 0, .free (w.heap.size + 1) 0, .cell (w.heap.size) 0 (.int .i64 (y)), .free (w.heap.size) 0] w5' := by
  rcases hw with hw | ⟨hw, hv⟩
  ·rw [hw]; exact H5.put (gs := [.cell (w.heap.size + 1 + 1 + 1 + 1) 0 (.int .i64 ((8 * (y / 100 + 1) + 5) / 25 - 5)), .cell (w.heap.size + 1 + 1 + 1) 0 (.int .i64 (3 * (y / 100 + 1) / 4 - 12)), .cell (w.heap.size + 1 + 1) 0 (.int .i64 (y / 100 + 1)), .cell (w.heap.size + 1) 0 (.int .i64 (y % 19 + 1)), .cell (w.heap.size + 1 + 1 + 1 + 1 + 1 + 1) 0 (.int .i64 (0)), .free (w.heap.size + 1 + 1 + 1 + 1 + 1 + 1) 0, .free (w.heap.size + 1 + 1 + 1 + 1 + 1) 0, .free (w.heap.size + 1 + 1 + 1 + 1) 0, .free (w.heap.size + 1 + 1 + 1) 0, .free (w.heap.size + 1 + 1) 0, .free (w.heap.size + 1) 0, .cell (w.heap.size) 0 (.int .i64 (y)), .free (w.heap.size) 0]) (w.heap.size + 1 + 1 + 1 + 1 + 1) (.int .i64 (eaE y)) (by omega) c_e (by intro f hf; simp only [List.mem_cons, List.not_mem_nil, or_false] at hf; rcases hf with rfl | rfl | rfl | rfl | rfl | rfl | rfl | rfl | rfl | rfl | rfl | rfl | rfl <;> exact ⟨(by repeat (first | with_reducible exact List.mem_cons_self | with_reducible apply List.mem_cons_of_mem)), by simp [Fact.off] <;> omega⟩)
  ·rw [hw, ← hv]; exact H5.sub (by intro f hf; simp only [List.mem_cons, List.not_mem_nil, or_false] at hf; rcases hf with rfl | rfl | rfl | rfl | rfl | rfl | rfl | rfl | rfl | rfl | rfl | rfl | rfl | rfl <;> exact (by repeat (first | with_reducible exact List.mem_cons_self | with_reducible apply List.mem_cons_of_mem)))
 clear hw H5 f_e c_e c_g
 go_wp2_with fail
 (try simp only [Exit.inBlock, Exit.then])
 rw [rounds_succ]
 go_wp2_with fail
 have c_e := H6.cell (w.heap.size + 1 + 1 + 1 + 1 + 1) 0 (.int .i64 (eaE y))
 have c_n := H6.cell (w.heap.size + 1 + 1 + 1 + 1 + 1 + 1) 0 (.int .i64 (0))
 have f_n := H6.frozen (w.heap.size + 1 + 1 + 1 + 1 + 1 + 1) 0
 (with_reducible refine (moon_7 (eaE y) 0 _ _ _ c_e c_n f_n (by omega)).mono ?_)
 rintro e w6' ⟨rfl, hw⟩
 have H7 : Held w [.cell (w.heap.size + 1 + 1 + 1 + 1 + 1 + 1) 0 (.int .i64 (44 - eaE y)), .cell (w.heap.size + 1 + 1 + 1 + 1 + 1) 0 (.int .i64 (eaE y)), .cell (w.heap.size + 1 + 1 + 1 + 1) 0 (.int .i64 ((8 * (y / 100 + 1) + 5) / 25 - 5)), .cell (w.heap.size + 1 + 1 + 1) 0 (.int .i64 (3 * (y / 100 + 1) / 4 - 12)), .cell (w.heap.size + 1 + 1) 0 (.int .i64 (y / 100 + 1)), .cell (w.heap.size + 1) 0 (.int .i64 (y % 19 + 1)), .free (w.heap.size + 1 + 1 + 1 + 1 + 1 + 1) 0, .free (w.heap.size + 1 + 1 + 1 + 1 + 1) 0, .free (w.heap.size + 1 + 1 + 1 + 1) 0, .free (w.heap.size + 1 + 1 + 1) 0, .free (w.heap.size + 1 + 1) 0, .free (w.heap.size + 1) 0, .cell (w.heap.size) 0 (.int .i64 (y)), .free (w.heap.size) 0] w6' := by rw [hw]; exact H6.put (gs := [.cell (w.heap.size + 1 + 1 + 1 + 1 + 1) 0 (.int .i64 (eaE y)), .cell (w.heap.size + 1 + 1 + 1 + 1) 0 (.int .i64 ((8 * (y / 100 + 1) + 5) / 25 - 5)), .cell (w.heap.size + 1 + 1 + 1) 0 (.int .i64 (3 * (y / 100 + 1) / 4 - 12)), .cell (w.heap.size + 1 + 1) 0 (.int .i64 (y / 100 + 1)), .cell (w.heap.size + 1) 0 (.int .i64 (y % 19 + 1)), .free (w.heap.size + 1 + 1 + 1 + 1 + 1 + 1) 0, .free (w.heap.size + 1 + 1 + 1 + 1 + 1) 0, .free (w.heap.size + 1 + 1 + 1 + 1) 0, .free (w.heap.size + 1 + 1 + 1) 0, .free (w.heap.size + 1 + 1) 0, .free (w.heap.size + 1) 0, .cell (w.heap.size) 0 (.int .i64 (y)), .free (w.heap.size) 0]) (w.heap.size + 1 + 1 + 1 + 1 + 1 + 1) (.int .i64 (44 - eaE y)) (by omega) c_n (by intro f hf; simp only [List.mem_cons, List.not_mem_nil, or_false] at hf; rcases hf with rfl | rfl | rfl | rfl | rfl | rfl | rfl | rfl | rfl | rfl | rfl | rfl | rfl <;> exact ⟨(by repeat (first | with_reducible exact List.mem_cons_self | with_reducible apply List.mem_cons_of_mem)), by simp [Fact.off] <;> omega⟩)
 clear hw H6 f_n c_e c_n
 go_wp2_with fail
 (try simp only [Exit.inBlock, Exit.then])
 rw [rounds_succ]
 go_wp2_with fail
 have c_n := H7.cell (w.heap.size + 1 + 1 + 1 + 1 + 1 + 1) 0 (.int .i64 (44 - eaE y))
 have f_n := H7.frozen (w.heap.size + 1 + 1 + 1 + 1 + 1 + 1) 0
 (with_reducible refine (moon_8 (44 - eaE y) (eaN y) _ _ c_n f_n (by omega) (by unfold eaN; split <;> omega)).mono ?_)
 rintro e w7' ⟨rfl, hw⟩
 have H8 : Held w [.cell (w.heap.size + 1 + 1 + 1 + 1 + 1 + 1) 0 (.int .i64 (eaN y)), .cell (w.heap.size + 1 + 1 + 1 + 1 + 1) 0 (.int .i64 (eaE y)), .cell (w.heap.size + 1 + 1 + 1 + 1) 0 (.int .i64 ((8 * (y / 100 + 1) + 5) / 25 - 5)), .cell (w.heap.size + 1 + 1 + 1) 0 (.int .i64 (3 * (y / 100 + 1) / 4 - 12)), .cell (w.heap.size + 1 + 1) 0 (.int .i64 (y / 100 + 1)), .cell (w.heap.size + 1) 0 (.int .i64 (y % 19 + 1)), .free (w.heap.size + 1 + 1 + 1 + 1 + 1 + 1) 0, .free (w.heap.size + 1 + 1 + 1 + 1 + 1) 0, .free (w.heap.size + 1 + 1 + 1 + 1) 0, .free (w.heap.size + 1 + 1 + 1) 0, .free (w.heap.size + 1 + 1) 0, .free (w.heap.size + 1) 0, .cell (w.heap.size) 0 (.int .i64 (y)), .free (w.heap.size) 0] w7' := by
  rcases hw with hw | ⟨hw, hv⟩
  ·rw [hw]; exact H7.put (gs := [.cell (w.heap.size + 1 + 1 + 1 + 1 + 1) 0 (.int .i64 (eaE y)), .cell (w.heap.size + 1 + 1 + 1 + 1) 0 (.int .i64 ((8 * (y / 100 + 1) + 5) / 25 - 5)), .cell (w.heap.size + 1 + 1 + 1) 0 (.int .i64 (3 * (y / 100 + 1) / 4 - 12)), .cell (w.heap.size + 1 + 1) 0 (.int .i64 (y / 100 + 1)), .cell (w.heap.size + 1) 0 (.int .i64 (y % 19 + 1)), .free (w.heap.size + 1 + 1 + 1 + 1 + 1 + 1) 0, .free (w.heap.size + 1 + 1 + 1 + 1 + 1) 0, .free (w.heap.size + 1 + 1 + 1 + 1) 0, .free (w.heap.size + 1 + 1 + 1) 0, .free (w.heap.size + 1 + 1) 0, .free (w.heap.size + 1) 0, .cell (w.heap.size) 0 (.int .i64 (y)), .free (w.heap.size) 0]) (w.heap.size + 1 + 1 + 1 + 1 + 1 + 1) (.int .i64 (eaN y)) (by omega) c_n (by intro f hf; simp only [List.mem_cons, List.not_mem_nil, or_false] at hf; rcases hf with rfl | rfl | rfl | rfl | rfl | rfl | rfl | rfl | rfl | rfl | rfl | rfl | rfl <;> exact ⟨(by repeat (first | with_reducible exact List.mem_cons_self | with_reducible apply List.mem_cons_of_mem)), by simp [Fact.off] <;> omega⟩)
  ·rw [hw, ← hv]; exact H7.sub (by intro f hf; simp only [List.mem_cons, List.not_mem_nil, or_false] at hf; rcases hf with rfl | rfl | rfl | rfl | rfl | rfl | rfl | rfl | rfl | rfl | rfl | rfl | rfl | rfl <;> exact (by repeat (first | with_reducible exact List.mem_cons_self | with_reducible apply List.mem_cons_of_mem)))
 clear hw H7 f_n c_n
 go_wp2_with fail
 (try simp only [Exit.inBlock, Exit.then])
 have c_n := H8.cell (w.heap.size + 1 + 1 + 1 + 1 + 1 + 1) 0 (.int .i64 (eaN y))
 have l_n := zA0 c_n
 rw [rounds_succ]
 go_wp2_with fail
 go_ret
 exact ⟨rfl, H8.old⟩
theorem eday_any (y n c : Int) (w : World) (hL : FactsE w) (h : EaIs y n c) : Calls Tryz.prog 226 #[.int .i64 y] w fun e w' => e = .returned (.tuple #[.int .i64 n, .int .i64 c]) ∧ Below w.heap.size w w' := by
 have hL : Lens w := hL
 rcases h with ⟨h1, h2, hn, rfl⟩ | ⟨ho, rfl, rfl⟩
 ·have my := zFu (zFg y 1 h1 h2 (by decide) (by decide))
  have bd := zC8 y 3 1 (zFg y 1 h1 h2 (by decide) (by decide))
  have eb := eaN_bd y
  unfold east at hn
  obtain ⟨M, hM⟩ : ∃ M, nb y 3 1 = M := ⟨_, rfl⟩
  obtain ⟨N, hN⟩ : ∃ N, eaN y = N := ⟨_, rfl⟩
  rw [hM] at my bd hn
  rw [hN] at eb hn
  have hn2 : sun (M + N - 1 + 1) = n := by rw [← hn]; congr 1; omega
  have C1 := Lib.hid (fun v h => zBp y 3 1 M 0 v h my)
  have C2 := Lib.hid (fun v => moon_any y v h1 h2)
  rw [hN] at C2
  have C3 := Lib.hid (fun v => zM6 (M + N - 1) n v (by omega) hn2)
  clear hn hn2 hM hN my
  go_enter Tryz.func226, Tryz.ntmps226
  go_wp2_with fail
  (with_reducible refine (C1.out _ (hL.below (by first | exact Below.refl _ _ | exact (Below.refl _ _).alloc (Nat.le_refl _) _))).mono ?_)
  rintro e w1 ⟨rfl, hb⟩
  go_wp2_with fail
  (with_reducible refine (C2.out _).mono ?_)
  rintro e w2 ⟨rfl, hb2⟩
  go_wp2_with fail
  (with_reducible refine (C3.out _).mono ?_)
  rintro e w3 ⟨rfl, rfl⟩
  go_wp2_with fail
  go_ret2
  exact ⟨rfl, hb.trans (hb2.mono hb.size)⟩
 ·have my := n_no (y := y) (m := 3) (d := 1) (fun k => by have a := k.1; have b := k.2.1; omega)
  have C1 := Lib.hid (fun v h => zBp y 3 1 0 3 v h my)
  clear my
  go_enter Tryz.func226, Tryz.ntmps226
  go_wp2_with fail
  (with_reducible refine (C1.out _ (hL.below (by first | exact Below.refl _ _ | exact (Below.refl _ _).alloc (Nat.le_refl _) _))).mono ?_)
  rintro e w1 ⟨rfl, hb⟩
  go_wp2_with fail
  go_ret2
  exact ⟨rfl, hb⟩
end Go.Proofs.YtpfgdfpaoldhcaaGreatDoor
