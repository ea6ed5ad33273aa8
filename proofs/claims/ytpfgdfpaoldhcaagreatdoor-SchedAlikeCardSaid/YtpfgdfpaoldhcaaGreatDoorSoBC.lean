/- Several texts in one: ScShown. -/
import Derived.Test.YtpfgdfpaoldhcaaGreatDoorSoBB
set_option maxHeartbeats 8000000
set_option maxRecDepth 100000
set_option linter.unusedVariables false
set_option linter.unusedSimpArgs false
namespace Go.Proofs.YtpfgdfpaoldhcaaGreatDoor
open Go.RowKit
theorem zC7 (y m d n : Int) (w : World) (h : nN y m d = n) : Calls Tryz.prog 21 #[.int .i64 y, .int .i64 m, .int .i64 d] w fun e w' => e = .returned (.int .i64 n) ∧ Below w.heap.size w w' := by
 obtain ⟨c, hc⟩ : ∃ c, nE y m d = c := ⟨_, rfl⟩
 have C := Lib.hid (fun v => zN4 y m d n c v ⟨h, hc⟩)
 clear h hc
 go_enter Tryz.func21, Tryz.ntmps21
 go_wp2_with fail
 (with_reducible refine (C.out _).mono ?_)
 rintro e w1 ⟨rfl, hb⟩
 go_wp2
 go_ret
 exact ⟨rfl, hb⟩
def ex17 : Tm := Tm.mk 1 0 0 3 738900 739082 3 false false false 1
def ex17X (k : Nat) : Int := sx false 2024 1 15 (24288 + (k : Int) * 3)
def ex17E (k : Nat) : Int := se (24288 + (k : Int) * 3)
def zBz (i : Nat) : Int := if i = 0 then 738900 else if i = 1 then 738991 else 739082
def zBy : Pl := ⟨ex17X, ex17E, 2, 1, zBz, fun _ => 0, zBz, fun _ => 0, fun _ => 91, fun _ => 360, fun _ => 0⟩
theorem zOt : ex17.code = 0 := by decide +kernel
theorem zOv : ex17.Walk ex17X ex17E 2 := by
 refine zIp ex17 zOt 2024 1 15 24288 (by unfold may; decide +kernel) (by decide +kernel) (by decide) 2 (by decide) (by decide) ?_ ?_
 ·intro k h1 h2
  obtain rfl : k = 1 := by omega
  decide +kernel
 ·intro _
  decide +kernel
theorem zE2 (n : Int) (h : (1 ≤ n ∧ n ≤ 3652059) ∧ oc (wk n).toNat = false) : ToIs (wcal oc) n 1 n 0 := ToIs.stay ((zRr oc n).2 h) (by decide) (by decide)
theorem zOu : PlanIs ex17 (wcal oc) zBy where
 walk _ := zOv
 q _ := by decide +kernel
 roll i hi := by
  have : i = 0 ∨ i = 1 ∨ i = 2 := by have : i < 1 + 2 := hi; omega
  rcases this with rfl | rfl | rfl
  ·rw [show ex17.dd zBy.X zBy.q 0 = 738900 by decide +kernel]; exact zE2 738900 (by decide +kernel)
  ·rw [show ex17.dd zBy.X zBy.q 1 = 738991 by decide +kernel]; exact zE2 738991 (by decide +kernel)
  ·rw [show ex17.dd zBy.X zBy.q 2 = 739082 by decide +kernel]; exact zE2 739082 (by decide +kernel)
 grid i hi := by
  have hk : zBy.K = 3 := by decide +kernel
  have : i = 0 ∨ i = 1 ∨ i = 2 := by omega
  rcases this with rfl | rfl | rfl
  ·rw [show zBy.G ex17 0 = 738900 by decide +kernel]; exact zE2 738900 (by decide +kernel)
  ·rw [show zBy.G ex17 1 = 738991 by decide +kernel]; exact zE2 738991 (by decide +kernel)
  ·rw [show zBy.G ex17 2 = 739082 by decide +kernel]; exact zE2 739082 (by decide +kernel)
 part i hi := by
  have : i = 0 ∨ i = 1 := by have : i < 1 + 1 := hi; omega
  rcases this with rfl | rfl
  ·exact Or.inr (Or.inr (Or.inr (Or.inl ⟨rfl, ac_in 2024 1 15 2024 4 15 (by unfold may; decide +kernel) (by decide +kernel) (by unfold may; decide +kernel) (by decide +kernel) (by decide +kernel) (by decide +kernel) (by decide +kernel)⟩)))
  ·exact Or.inr (Or.inr (Or.inr (Or.inl ⟨rfl, ac_in 2024 4 15 2024 7 15 (by unfold may; decide +kernel) (by decide +kernel) (by unfold may; decide +kernel) (by decide +kernel) (by decide +kernel) (by decide +kernel) (by decide +kernel)⟩)))
def zEn : Tm := Tm.mk 0 0 0 3 738900 739082 3 false false false 1
theorem zC4 : zEn.code = 2 := by decide +kernel
theorem ex17_out {n0 : Nat} {e : Ending} {W : World} (h : PlanOut zBy ex17 n0 e W) : ∃ a0 a1 a2 a3 c0 c1 c2 c3, e = .returned (.tuple #[.agg #[.slice a0 3 c0, .slice a1 3 c1, .slice a2 2 c2, .bool false, .int .i64 739082, .int .i64 4, .slice a3 0 c3], .int .i64 0]) ∧ DaysAt W a0 zBz 3 c0 ∧ DaysAt W a1 zBz 3 c1 ∧ RatAt W a2 (fun _ => 91) (fun _ => 360) 2 c2 := by
 obtain ⟨a0, a1, a2, a3, c0, c1, c2, c3, rfl, h0, h1, h2, -, -⟩ := h
 have e1 : zBy.n ex17 = 3 := by decide +kernel
 have e2 : zBy.np ex17 = 2 := by decide +kernel
 have e3 : zBy.ng ex17 = 0 := by decide +kernel
 have e4 : zBy.eo ex17 = false := by decide +kernel
 have e5 : zBy.en ex17 = 739082 := by decide +kernel
 have e6 : zBy.f ex17 = 4 := by decide +kernel
 have e7 : zBy.code ex17 = 0 := by decide +kernel
 rw [e1] at h0 h1
 rw [e2] at h2
 refine ⟨a0, a1, a2, a3, c0, c1, c2, c3, by rw [e1, e2, e3, e4, e5, e6, e7], h0.ext (fun i hi => ?_), h1, h2⟩
 have : i = 0 ∨ i = 1 ∨ i = 2 := by omega
 rcases this with rfl | rfl | rfl <;> decide +kernel
theorem zOs {x : Pl} {n0 : Nat} {e : Ending} {W : World} (h : PlanOut x zEn n0 e W) : ∃ a0 a1 a2 a3 c0 c1 c2 c3, e = .returned (.tuple #[.agg #[.slice a0 0 c0, .slice a1 0 c1, .slice a2 0 c2, .bool false, .int .i64 0, .int .i64 0, .slice a3 0 c3], .int .i64 2]) := by
 obtain ⟨a0, a1, a2, a3, c0, c1, c2, c3, rfl, -, -, -, -, -⟩ := h
 have hx : x.code zEn = 2 := by unfold Pl.code; rw [if_pos (by rw [zC4]; decide)]; exact zC4
 have hn : x.n zEn = 0 := by unfold Pl.n; rw [if_neg (by omega)]
 have hp : x.np zEn = 0 := by unfold Pl.np; rw [if_neg (by omega)]
 have hg : x.ng zEn = 0 := by unfold Pl.ng; rw [if_neg (by omega)]
 have h1 : x.eo zEn = false := by unfold Pl.eo; rw [if_neg (by omega)]
 have h2 : x.en zEn = 0 := by unfold Pl.en; rw [if_neg (by omega)]
 have h3 : x.f zEn = 0 := by unfold Pl.f; rw [if_neg (by omega)]
 exact ⟨a0, a1, a2, a3, c0, c1, c2, c3, by rw [hn, hp, hg, h1, h2, h3, hx]⟩
theorem zL3 (j : Nat) : (1 : Int) ≠ zBz j := by unfold zBz; split <;> (try split) <;> decide
theorem zNd (W : World) : DaysAt (W.alloc (.cells #[.int .i64 738900, .int .i64 738991, .int .i64 739082] 3)) (some ⟨W.heap.size, 0, none⟩) zBz 3 3 :=
 ⟨Nat.le_refl _, fun _ => ⟨W.heap.size, 0, rfl, fun j hj => by
  have : j = 0 ∨ j = 1 ∨ j = 2 := by omega
  rcases this with rfl | rfl | rfl <;> simp [World.cell?_alloc_new, zBz]⟩⟩
theorem two_at17 (W : World) : RatAt (W.alloc (.cells #[.int .i64 91, .int .i64 360, .int .i64 91, .int .i64 360] 48)) (some ⟨W.heap.size, 0, none⟩) (fun _ => 91) (fun _ => 360) 2 2 :=
 ⟨Nat.le_refl _, fun _ => ⟨W.heap.size, 0, rfl, fun j hj => by
  have : j = 0 ∨ j = 1 := by omega
  rcases this with rfl | rfl <;> simp [World.cell?_alloc_new]⟩⟩
theorem setr17 {W : World} {ao : Option Addr} {P Q : Nat → Int} {n cap B o : Nat} {old : Value} (h : RatAt W ao P Q n cap) (ho : W.cell? ⟨B, o, none⟩ = some old) (h1 : ∀ j, j < n → old ≠ .int .i64 (P j)) (h2 : ∀ j, j < n → old ≠ .int .i64 (Q j)) (u : Value) : RatAt (W.setCell ⟨B, o, none⟩ u) ao P Q n cap :=
 ⟨h.1, fun hn => by
  obtain ⟨b, off, e, hc⟩ := h.2 hn
  exact ⟨b, off, e, fun j hj => ⟨zA3 (hc j hj).1 (zBf (hc j hj).1 ho (fun e => h1 j hj e.symm)) u, zA3 (hc j hj).2 (zBf (hc j hj).2 ho (fun e => h2 j hj e.symm)) u⟩⟩⟩
theorem zBb (w : World) (hL : FactsS w) : Calls Tryz.prog 9 #[] w fun e w' => e = .returned (.bool true) ∧ Below w.heap.size w w' := by
 have H := (Held.start w).add (f := zA9) hL
 have HF := Lib.hid hL
 obtain ⟨xn, hxn, -⟩ := zH1 zEn (wcal oc) (fun _ => 0) (fun _ => 0) 0 0 (fun g => by rw [zC4] at g; cases g) (fun g => by rw [zC4] at g; cases g)
 have O1 : Hid (∀ v, FactsS v → Calls Tryz.prog 11 #[.agg #[.int .i64 1, .int .i64 0, .int .i64 0, .int .i64 3, .int .i64 738900, .int .i64 739082, .int .i64 3, .bool false, .bool false, .bool false, .int .i64 1], .agg #[.bool false, .bool false, .bool false, .bool false, .bool false, .bool true, .bool true, .slice none 0 0, .slice none 0 0]] v fun e w' => PlanOut zBy ex17 v.heap.size e w' ∧ Below v.heap.size v w') := Lib.hid (fun v h => zDg ex17 (wcal oc) none 0 none 0 zBy v h (zGk _ _ _ _) oc_may zOu (fun _ => ⟨by decide, by decide⟩))
 have O2 : Hid (∀ v, FactsS v → Calls Tryz.prog 11 #[.agg #[.int .i64 0, .int .i64 0, .int .i64 0, .int .i64 3, .int .i64 738900, .int .i64 739082, .int .i64 3, .bool false, .bool false, .bool false, .int .i64 1], .agg #[.bool false, .bool false, .bool false, .bool false, .bool false, .bool true, .bool true, .slice none 0 0, .slice none 0 0]] v fun e w' => PlanOut xn zEn v.heap.size e w' ∧ Below v.heap.size v w') := Lib.hid (fun v h => zDg zEn (wcal oc) none 0 none 0 xn v h (zGk _ _ _ _) oc_may hxn (fun g => by rw [zC4] at g; cases g))
 clear hL hxn
 go_enter Tryz.func9, Tryz.ntmps9
 go_wp2_with fail
 (with_reducible refine (zC7 2024 1 15 738900 _ (by decide +kernel)).mono ?_)
 rintro e w1 ⟨rfl, hb⟩
 replace H := H.below hb
 clear hb
 go_wp2_with fail
 (with_reducible refine (zC7 2024 7 15 739082 _ (by decide +kernel)).mono ?_)
 rintro e w2 ⟨rfl, hb⟩
 replace H := H.below hb
 clear hb
 go_wp2_with fail
 have HTW : Hid (w.heap.size ≤ w2.heap.size) := Lib.hid H.size
 replace H := H.box_11 (w2.heap.size) (.int .i64 1) (.int .i64 0) (.int .i64 0) (.int .i64 3) (.int .i64 738900) (.int .i64 739082) (.int .i64 3) (.bool false) (.bool false) (.bool false) (.int .i64 1) 23 rfl
 replace H := H.box_9 (w2.heap.size + 1) (.bool false) (.bool false) (.bool false) (.bool false) (.bool false) (.bool true) (.bool true) (.slice none 0 0) (.slice none 0 0) 28 (by simp)
 (with_reducible refine (O1.out _ (H.factsS)).mono ?_)
 rintro e w3 ⟨hp, hb⟩
 obtain ⟨a0, a1, a2, a3, c0, c1, c2, c3, rfl, hd0, hd1, hd2⟩ := ex17_out hp
 replace H := (((H.below hb).add (f := zA4 a0 zBz 3 c0) hd0).add (f := zA4 a1 zBz 3 c1) hd1).add (f := ratF a2 (fun _ => 91) (fun _ => 360) 2 c2) hd2
 clear hb hp hd0 hd1 hd2
 obtain ⟨ct0, ct1, ct2, ct3, ct4, ct5, ct6, ct7, ct8, ct9, ct10⟩ := H.cells11 (w2.heap.size)
 have lt := zA0 ct0
 obtain ⟨cc0, cc1, cc2, cc3, cc4, cc5, cc6, cc7, cc8⟩ := H.cells9 (w2.heap.size + 1)
 have lc := zA0 cc0
 go_upto_region 4 with fail
 clear ct0 ct1 ct2 ct3 ct4 ct5 ct6 ct7 ct8 ct9 ct10 lt cc0 cc1 cc2 cc3 cc4 cc5 cc6 cc7 cc8 lc
 replace H := H.box_7 (w3.heap.size) (.slice a0 3 c0) (.slice a1 3 c1) (.slice a2 2 c2) (.bool false) (.int .i64 739082) (.int .i64 4) (.slice a3 0 c3) 35 rfl
 replace H : Held w [.cell (w2.heap.size) 0 (.int .i64 1), .cell (w2.heap.size) 1 (.int .i64 0), .cell (w2.heap.size) 2 (.int .i64 0), .cell (w2.heap.size) 3 (.int .i64 3), .cell (w2.heap.size) 4 (.int .i64 738900), .cell (w2.heap.size) 5 (.int .i64 739082), .cell (w2.heap.size) 6 (.int .i64 3), .cell (w2.heap.size) 7 (.bool false), .cell (w2.heap.size) 8 (.bool false), .cell (w2.heap.size) 9 (.bool false), .cell (w2.heap.size) 10 (.int .i64 1), .cell (w2.heap.size + 1) 0 (.bool false), .cell (w2.heap.size + 1) 1 (.bool false), .cell (w2.heap.size + 1) 2 (.bool false), .cell (w2.heap.size + 1) 3 (.bool false), .cell (w2.heap.size + 1) 4 (.bool false), .cell (w2.heap.size + 1) 5 (.bool true), .cell (w2.heap.size + 1) 6 (.bool true), .cell (w2.heap.size + 1) 7 (.slice none 0 0), .cell (w2.heap.size + 1) 8 (.slice none 0 0), .cell (w3.heap.size) 0 (.slice a0 3 c0), .cell (w3.heap.size) 1 (.slice a1 3 c1), .cell (w3.heap.size) 2 (.slice a2 2 c2), .cell (w3.heap.size) 3 (.bool false), .cell (w3.heap.size) 4 (.int .i64 739082), .cell (w3.heap.size) 5 (.int .i64 4), .cell (w3.heap.size) 6 (.slice a3 0 c3), .free (w2.heap.size) 0, zA4 a0 zBz 3 c0, zA4 a1 zBz 3 c1, ratF a2 (fun _ => 91) (fun _ => 360) 2 c2, zA9] _ := H.sub (fun f hf => by
  simp only [List.mem_cons, List.not_mem_nil, or_false] at hf
  rcases hf with rfl | rfl | rfl | rfl | rfl | rfl | rfl | rfl | rfl | rfl | rfl | rfl | rfl | rfl | rfl | rfl | rfl | rfl | rfl | rfl | rfl | rfl | rfl | rfl | rfl | rfl | rfl | rfl | rfl | rfl | rfl | rfl
  all_goals (repeat (first | with_reducible exact List.mem_cons_self | with_reducible apply List.mem_cons_of_mem)))
 revert H
 generalize World.alloc _ _ = W4
 intro H
 have kt := H.cell (w2.heap.size) 0 (.int .i64 1)
 have ft := H.frozen (w2.heap.size) 0
 have lt := zA0 kt
 have nec := zBf (H.cell (w2.heap.size + 1) 0 (.bool false)) kt (by intro e; cases e)
 have nep := zBf (H.cell (w3.heap.size) 0 (.slice a0 3 c0)) kt (by intro e; cases e)
 have htw : w.heap.size ≤ w2.heap.size := HTW.out
 go_upto_region 5 with fail
 clear kt ft lt
 replace H := Held.put17 H (.int .i64 0) htw (zA1 (Or.inr (by decide)) (zA1 (Or.inr (by decide)) (zA1 (Or.inr (by decide)) (zA1 (Or.inr (by decide)) (zA1 (Or.inr (by decide)) (zA1 (Or.inr (by decide)) (zA1 (Or.inr (by decide)) (zA1 (Or.inr (by decide)) (zA1 (Or.inr (by decide)) (zA1 (Or.inr (by decide)) (zA1 nec (zA1 (Or.inr (by decide)) (zA1 (Or.inr (by decide)) (zA1 (Or.inr (by decide)) (zA1 (Or.inr (by decide)) (zA1 (Or.inr (by decide)) (zA1 (Or.inr (by decide)) (zA1 (Or.inr (by decide)) (zA1 (Or.inr (by decide)) (zA1 nep (zA1 (Or.inr (by decide)) (zA1 (Or.inr (by decide)) (zA1 (Or.inr (by decide)) (zA1 (Or.inr (by decide)) (zA1 (Or.inr (by decide)) (zA1 (Or.inr (by decide)) (zA1 trivial (zA1 (Or.inr (fun W u ho h => zA6 h ho (fun j hj e => by injection e with _ e; exact zL3 j e) u)) (zA1 (Or.inr (fun W u ho h => zA6 h ho (fun j hj e => by injection e with _ e; exact zL3 j e) u)) (zA1 (Or.inr (fun W u ho h => setr17 h ho (fun j hj e => by injection e with _ e; revert e; decide) (fun j hj e => by injection e with _ e; revert e; decide) u)) (zA1 (Or.inl HF.out) (fun f hf => absurd hf (List.not_mem_nil)))))))))))))))))))))))))))))))))
 clear nec nep htw
 revert H
 generalize World.setCell _ _ _ = W5
 intro H
 obtain ⟨ct0, ct1, ct2, ct3, ct4, ct5, ct6, ct7, ct8, ct9, ct10⟩ := H.cells11 (w2.heap.size)
 have lt := zA0 ct0
 obtain ⟨cc0, cc1, cc2, cc3, cc4, cc5, cc6, cc7, cc8⟩ := H.cells9 (w2.heap.size + 1)
 have lc := zA0 cc0
 go_wp2_with fail
 clear ct0 ct1 ct2 ct3 ct4 ct5 ct6 ct7 ct8 ct9 ct10 lt cc0 cc1 cc2 cc3 cc4 cc5 cc6 cc7 cc8 lc
 (with_reducible refine (O2.out _ (H.factsS)).mono ?_)
 rintro e w6 ⟨hp, hb⟩
 obtain ⟨b0, b1, b2, b3, d0, d1, d2, d3, rfl⟩ := zOs hp
 replace H := H.below hb
 clear hb hp
 go_upto_region 7 with fail
 replace H := H.alloc (.cells #[.slice b0 0 d0, .slice b1 0 d1, .slice b2 0 d2, .bool false, .int .i64 0, .int .i64 0, .slice b3 0 d3] 35)
 replace H := H.pair (w6.heap.size + 1) (.int .i64 91) (.int .i64 360) 48 (by simp)
 revert H
 generalize World.alloc _ _ = W7
 intro H
 obtain ⟨i0, hi, hz0, hz1, hz2⟩ := info_parts zAt
 replace H := H.drew
 refine wp_region_held_drew (S := fun w' => w'.cell? ⟨w3.heap.size, 0, none⟩ = some (.slice a0 3 c0) ∧ w'.cell? ⟨w3.heap.size, 1, none⟩ = some (.slice a1 3 c1) ∧ w'.cell? ⟨w3.heap.size, 2, none⟩ = some (.slice a2 2 c2) ∧ w'.cell? ⟨w3.heap.size, 4, none⟩ = some (.int .i64 739082) ∧ w'.cell? ⟨w3.heap.size, 5, none⟩ = some (.int .i64 4) ∧ w'.cell? ⟨w3.heap.size, 6, none⟩ = some (.slice a3 0 c3) ∧ w'.cell? ⟨w6.heap.size + 1, 0, none⟩ = some (.int .i64 91) ∧ w'.cell? ⟨w6.heap.size + 1, 1, none⟩ = some (.int .i64 360)) (by kernel_rfl) (⟨H.cell (w3.heap.size) (0) (.slice a0 3 c0), H.cell (w3.heap.size) (1) (.slice a1 3 c1), H.cell (w3.heap.size) (2) (.slice a2 2 c2), H.cell (w3.heap.size) (4) (.int .i64 739082), H.cell (w3.heap.size) (5) (.int .i64 4), H.cell (w3.heap.size) (6) (.slice a3 0 c3), H.cell (w6.heap.size + 1) (0) (.int .i64 91), H.cell (w6.heap.size + 1) (1) (.int .i64 360)⟩) (fun hHeld => ?_)
 obtain ⟨WD, hWD⟩ : ∃ WD, World.drew (W7) = WD := ⟨_, rfl⟩
 rw [hWD] at H hHeld  ⊢
 clear hWD
 obtain ⟨b0, hb0⟩ : ∃ b0, WD.heap.size = b0 := ⟨_, rfl⟩
 have HB := Below.refl b0 WD
 have HWD := Lib.hid H
 have HS : Hid (∀ W, Below b0 WD W → b0 ≤ W.heap.size) := Lib.hid (fun W h => by have z := h.size; rw [hb0] at z; exact z)
 have HU : Hid (∀ W, Below b0 WD W → Below WD.heap.size WD W) := Lib.hid (fun W h => by rw [hb0]; exact h)
 clear hb0
 refine wpAnyH_take (i := 0) (oi := ⟨some 27, _, _, _, _, _⟩) (v := ?_) rfl (by kernel_rfl) (by kernel_rfl) (by kernel_rfl) (fun _ _ _ h => h) (Or.inl ⟨by rfl, ?_⟩) (by assumption) ?_
 rotate_left
 ·intro w hSw; (try dsimp only at hSw); go_simp; try with_reducible rfl
 simp only [Act.put, List.setIfInBounds_toArray, List.set_cons_zero, List.set_cons_succ]
 refine wpAnyH_take (i := 1) (oi := ⟨some 28, _, _, _, _, _⟩) (v := ?_) rfl (by kernel_rfl) (by kernel_rfl) (by kernel_rfl) (fun _ _ _ h => h) (Or.inl ⟨by rfl, ?_⟩) (by assumption) ?_
 rotate_left
 ·intro w hSw; (try dsimp only at hSw); go_simp; try with_reducible rfl
 simp only [Act.put, List.setIfInBounds_toArray, List.set_cons_zero, List.set_cons_succ]
 refine wpAnyH_take (i := 2) (oi := ⟨some 29, _, _, _, _, _⟩) (v := ?_) rfl (by kernel_rfl) (by kernel_rfl) (by kernel_rfl) (fun _ _ _ h => h) (Or.inl ⟨by rfl, ?_⟩) (by assumption) ?_
 rotate_left
 ·intro w hSw; (try dsimp only at hSw); go_simp; try with_reducible rfl
 simp only [Act.put, List.setIfInBounds_toArray, List.set_cons_zero, List.set_cons_succ]
 refine wpAnyH_take (i := 3) (oi := ⟨some 30, _, _, _, _, _⟩) (v := ?_) rfl (by kernel_rfl) (by kernel_rfl) (by kernel_rfl) (fun _ _ _ h => h) (Or.inl ⟨by rfl, ?_⟩) (by assumption) ?_
 rotate_left
 ·intro w hSw; (try dsimp only at hSw); go_simp; try with_reducible rfl
 simp only [Act.put, List.setIfInBounds_toArray, List.set_cons_zero, List.set_cons_succ]
 refine wpAnyH_take (i := 4) (oi := ⟨some 31, _, _, _, _, _⟩) (v := ?_) rfl (by kernel_rfl) (by kernel_rfl) (by kernel_rfl) (fun _ _ _ h => h) (Or.inl ⟨by rfl, ?_⟩) (by assumption) ?_
 rotate_left
 ·intro w hSw; (try dsimp only at hSw); go_simp; try with_reducible rfl
 simp only [Act.put, List.setIfInBounds_toArray, List.set_cons_zero, List.set_cons_succ]
 refine wpAnyH_take (i := 5) (oi := ⟨some 32, _, _, _, _, _⟩) (v := ?_) rfl (by kernel_rfl) (by kernel_rfl) (by kernel_rfl) (fun _ _ _ h => h) (Or.inl ⟨by rfl, ?_⟩) (by assumption) ?_
 rotate_left
 ·intro w hSw; (try dsimp only at hSw); go_simp; try with_reducible rfl
 simp only [Act.put, List.setIfInBounds_toArray, List.set_cons_zero, List.set_cons_succ]
 refine wpAnyH_take (i := 6) (oi := ⟨some 33, _, _, _, _, _⟩) (v := ?_) rfl (by kernel_rfl) (by kernel_rfl) (by kernel_rfl) (fun _ _ _ h => h) (Or.inl ⟨by rfl, ?_⟩) (by assumption) ?_
 rotate_left
 ·intro w hSw; (try dsimp only at hSw); go_simp; try with_reducible rfl
 simp only [Act.put, List.setIfInBounds_toArray, List.set_cons_zero, List.set_cons_succ]
 refine wpAnyH_take (i := 7) (oi := ⟨some 34, _, _, _, _, _⟩) (v := ?_) rfl (by kernel_rfl) (by kernel_rfl) (by kernel_rfl) (fun _ _ _ h => h) (Or.inl ⟨by rfl, ?_⟩) (by assumption) ?_
 rotate_left
 ·intro w hSw; (try dsimp only at hSw); go_simp; try with_reducible rfl
 simp only [Act.put, List.setIfInBounds_toArray, List.set_cons_zero, List.set_cons_succ]
 refine wpAnyH_take (i := 8) (oi := ⟨some 35, _, _, _, _, _⟩) (v := ?_) rfl (by kernel_rfl) (by kernel_rfl) (by kernel_rfl) (fun _ _ _ h => h) (Or.inl ⟨by rfl, ?_⟩) (by assumption) ?_
 rotate_left
 ·intro w hSw; (try dsimp only at hSw); go_simp; try with_reducible rfl
 simp only [Act.put, List.setIfInBounds_toArray, List.set_cons_zero, List.set_cons_succ]
 refine wpAnyH_ready (rs := [9]) (by kernel_rfl) (by simp) ?_
 refine AllReadyH.cons (o := ⟨some 36, _, _, _, _, _⟩) rfl (fun K hK => ?_) AllReadyH.nil
 go_simp
 (with_reducible refine (zC7 2024 1 15 738900 _ (by decide +kernel)).mono ?_)
 rintro e U1 ⟨rfl, hb⟩
 replace H := H.below hb
 replace HB := HB.trans (hb.mono (HS.out _ HB))
 clear hb
 go_wp2_with fail
 refine hK.out _ _ (⟨H.cell (w3.heap.size) (0) (.slice a0 3 c0), H.cell (w3.heap.size) (1) (.slice a1 3 c1), H.cell (w3.heap.size) (2) (.slice a2 2 c2), H.cell (w3.heap.size) (4) (.int .i64 739082), H.cell (w3.heap.size) (5) (.int .i64 4), H.cell (w3.heap.size) (6) (.slice a3 0 c3), H.cell (w6.heap.size + 1) (0) (.int .i64 91), H.cell (w6.heap.size + 1) (1) (.int .i64 360)⟩) (fun hNew => ?_)
 clear hK K hHeld
 have hHeld := hNew
 clear hNew
 try simp only [Act.put, List.setIfInBounds_toArray, List.set_cons_zero, List.set_cons_succ]
 refine wpAnyH_ready (rs := [10]) (by kernel_rfl) (by simp) ?_
 refine AllReadyH.cons (o := ⟨some 37, _, _, _, _, _⟩) rfl (fun K hK => ?_) AllReadyH.nil
 go_simp
 (with_reducible refine (zC7 2024 4 15 738991 _ (by decide +kernel)).mono ?_)
 rintro e U2 ⟨rfl, hb⟩
 replace H := H.below hb
 replace HB := HB.trans (hb.mono (HS.out _ HB))
 clear hb
 go_wp2_with fail
 refine hK.out _ _ (⟨H.cell (w3.heap.size) (0) (.slice a0 3 c0), H.cell (w3.heap.size) (1) (.slice a1 3 c1), H.cell (w3.heap.size) (2) (.slice a2 2 c2), H.cell (w3.heap.size) (4) (.int .i64 739082), H.cell (w3.heap.size) (5) (.int .i64 4), H.cell (w3.heap.size) (6) (.slice a3 0 c3), H.cell (w6.heap.size + 1) (0) (.int .i64 91), H.cell (w6.heap.size + 1) (1) (.int .i64 360)⟩) (fun hNew => ?_)
 clear hK K hHeld
 have hHeld := hNew
 clear hNew
 try simp only [Act.put, List.setIfInBounds_toArray, List.set_cons_zero, List.set_cons_succ]
 refine wpAnyH_ready (rs := [11]) (by kernel_rfl) (by simp) ?_
 refine AllReadyH.cons (o := ⟨some 38, _, _, _, _, _⟩) rfl (fun K hK => ?_) AllReadyH.nil
 go_simp
 (with_reducible refine (zC7 2024 7 15 739082 _ (by decide +kernel)).mono ?_)
 rintro e U3 ⟨rfl, hb⟩
 replace H := H.below hb
 replace HB := HB.trans (hb.mono (HS.out _ HB))
 clear hb
 go_wp2_with fail
 refine hK.out _ _ (⟨H.cell (w3.heap.size) (0) (.slice a0 3 c0), H.cell (w3.heap.size) (1) (.slice a1 3 c1), H.cell (w3.heap.size) (2) (.slice a2 2 c2), H.cell (w3.heap.size) (4) (.int .i64 739082), H.cell (w3.heap.size) (5) (.int .i64 4), H.cell (w3.heap.size) (6) (.slice a3 0 c3), H.cell (w6.heap.size + 1) (0) (.int .i64 91), H.cell (w6.heap.size + 1) (1) (.int .i64 360)⟩) (fun hNew => ?_)
 clear hK K hHeld
 have hHeld := hNew
 clear hNew
 try simp only [Act.put, List.setIfInBounds_toArray, List.set_cons_zero, List.set_cons_succ]
 refine wpAnyH_ready (rs := [12]) (by kernel_rfl) (by simp) ?_
 refine AllReadyH.cons (o := ⟨some 39, _, _, _, _, _⟩) rfl (fun K hK => ?_) AllReadyH.nil
 have nr := zNd U3
 replace H := H.alloc (.cells #[.int .i64 738900, .int .i64 738991, .int .i64 739082] 3)
 replace HB := HB.alloc (HS.out _ HB) (.cells #[.int .i64 738900, .int .i64 738991, .int .i64 739082] 3)
 go_simp
 refine hK.out _ _ (⟨H.cell (w3.heap.size) (0) (.slice a0 3 c0), H.cell (w3.heap.size) (1) (.slice a1 3 c1), H.cell (w3.heap.size) (2) (.slice a2 2 c2), H.cell (w3.heap.size) (4) (.int .i64 739082), H.cell (w3.heap.size) (5) (.int .i64 4), H.cell (w3.heap.size) (6) (.slice a3 0 c3), H.cell (w6.heap.size + 1) (0) (.int .i64 91), H.cell (w6.heap.size + 1) (1) (.int .i64 360)⟩) (fun hNew => ?_)
 clear hK K hHeld
 have hHeld := hNew
 clear hNew
 try simp only [Act.put, List.setIfInBounds_toArray, List.set_cons_zero, List.set_cons_succ]
 obtain ⟨T4, hT4⟩ : ∃ T, U3.heap.size = T := ⟨_, rfl⟩
 obtain ⟨U4, hU4⟩ : ∃ U, U3.alloc (.cells #[.int .i64 738900, .int .i64 738991, .int .i64 739082] 3) = U := ⟨_, rfl⟩
 rw [hU4] at H HB hHeld nr ⊢
 rw [hT4] at nr
 (try rw [hT4])
 replace H := H.add (f := zA4 (some ⟨T4, 0, none⟩) zBz 3 3) nr
 clear hT4 hU4 nr
 refine wpAnyH_ready (rs := [13]) (by kernel_rfl) (by simp) ?_
 refine AllReadyH.cons (o := ⟨some 40, _, _, _, _, _⟩) rfl (fun K hK => ?_) AllReadyH.nil
 go_simp
 (with_reducible refine (zCe a1 3 c1 zBz (some ⟨T4, 0, none⟩) 3 zBz _ (by omega) (H.days (ao := a1) (X := zBz) (n := 3) (cap := c1)) (H.days (ao := (some ⟨T4, 0, none⟩)) (X := zBz) (n := 3) (cap := 3)) (fun _ _ => rfl)).mono ?_)
 rintro e U5 ⟨rfl, hb⟩
 replace H := H.below hb
 replace HB := HB.trans (hb.mono (HS.out _ HB))
 clear hb
 go_wp2_with fail
 refine hK.out _ _ (⟨H.cell (w3.heap.size) (0) (.slice a0 3 c0), H.cell (w3.heap.size) (1) (.slice a1 3 c1), H.cell (w3.heap.size) (2) (.slice a2 2 c2), H.cell (w3.heap.size) (4) (.int .i64 739082), H.cell (w3.heap.size) (5) (.int .i64 4), H.cell (w3.heap.size) (6) (.slice a3 0 c3), H.cell (w6.heap.size + 1) (0) (.int .i64 91), H.cell (w6.heap.size + 1) (1) (.int .i64 360)⟩) (fun hNew => ?_)
 clear hK K hHeld
 have hHeld := hNew
 clear hNew
 try simp only [Act.put, List.setIfInBounds_toArray, List.set_cons_zero, List.set_cons_succ]
 refine wpAnyH_take (i := 14) (oi := ⟨some 41, _, _, _, _, _⟩) (v := ?_) rfl (by kernel_rfl) (by kernel_rfl) (by kernel_rfl) (fun _ _ _ h => h) (Or.inl ⟨by rfl, ?_⟩) (by assumption) ?_
 rotate_left
 ·intro w hSw; (try dsimp only at hSw); go_simp; try with_reducible rfl
 simp only [Act.put, List.setIfInBounds_toArray, List.set_cons_zero, List.set_cons_succ]
 refine wpAnyH_take (i := 15) (oi := ⟨some 42, _, _, _, _, _⟩) (v := ?_) rfl (by kernel_rfl) (by kernel_rfl) (by kernel_rfl) (fun _ _ _ h => h) (Or.inl ⟨by rfl, ?_⟩) (by assumption) ?_
 rotate_left
 ·intro w hSw; (try dsimp only at hSw); go_simp; try with_reducible rfl
 simp only [Act.put, List.setIfInBounds_toArray, List.set_cons_zero, List.set_cons_succ]
 refine wpAnyH_take (i := 16) (oi := ⟨some 43, _, _, _, _, _⟩) (v := ?_) rfl (by kernel_rfl) (by kernel_rfl) (by kernel_rfl) (fun _ _ _ h => h) (Or.inl ⟨by rfl, ?_⟩) (by assumption) ?_
 rotate_left
 ·intro w hSw; (try dsimp only at hSw); go_simp; try with_reducible rfl
 simp only [Act.put, List.setIfInBounds_toArray, List.set_cons_zero, List.set_cons_succ]
 refine wpAnyH_take (i := 17) (oi := ⟨some 44, _, _, _, _, _⟩) (v := ?_) rfl (by kernel_rfl) (by kernel_rfl) (by kernel_rfl) (fun _ _ _ h => h) (Or.inl ⟨by rfl, ?_⟩) (by assumption) ?_
 rotate_left
 ·intro w hSw; (try dsimp only at hSw); go_simp; try with_reducible rfl
 simp only [Act.put, List.setIfInBounds_toArray, List.set_cons_zero, List.set_cons_succ]
 refine wpAnyH_take (i := 18) (oi := ⟨some 45, _, _, _, _, _⟩) (v := ?_) rfl (by kernel_rfl) (by kernel_rfl) (by kernel_rfl) (fun _ _ _ h => h) (Or.inl ⟨by rfl, ?_⟩) (by assumption) ?_
 rotate_left
 ·intro w hSw; (try dsimp only at hSw); go_simp; try with_reducible rfl
 simp only [Act.put, List.setIfInBounds_toArray, List.set_cons_zero, List.set_cons_succ]
 refine wpAnyH_take (i := 19) (oi := ⟨some 46, _, _, _, _, _⟩) (v := ?_) rfl (by kernel_rfl) (by kernel_rfl) (by kernel_rfl) (fun _ _ _ h => h) (Or.inl ⟨by rfl, ?_⟩) (by assumption) ?_
 rotate_left
 ·intro w hSw; (try dsimp only at hSw); go_simp; try with_reducible rfl
 simp only [Act.put, List.setIfInBounds_toArray, List.set_cons_zero, List.set_cons_succ]
 refine wpAnyH_ready (rs := [20]) (by kernel_rfl) (by simp) ?_
 refine AllReadyH.cons (o := ⟨some 47, _, _, _, _, _⟩) rfl (fun K hK => ?_) AllReadyH.nil
 go_simp
 (with_reducible refine (zCe a0 3 c0 zBz a1 c1 zBz _ (by omega) (H.days (ao := a0) (X := zBz) (n := 3) (cap := c0)) (H.days (ao := a1) (X := zBz) (n := 3) (cap := c1)) (fun _ _ => rfl)).mono ?_)
 rintro e U6 ⟨rfl, hb⟩
 replace H := H.below hb
 replace HB := HB.trans (hb.mono (HS.out _ HB))
 clear hb
 go_wp2_with fail
 refine hK.out _ _ (⟨H.cell (w3.heap.size) (0) (.slice a0 3 c0), H.cell (w3.heap.size) (1) (.slice a1 3 c1), H.cell (w3.heap.size) (2) (.slice a2 2 c2), H.cell (w3.heap.size) (4) (.int .i64 739082), H.cell (w3.heap.size) (5) (.int .i64 4), H.cell (w3.heap.size) (6) (.slice a3 0 c3), H.cell (w6.heap.size + 1) (0) (.int .i64 91), H.cell (w6.heap.size + 1) (1) (.int .i64 360)⟩) (fun hNew => ?_)
 clear hK K hHeld
 have hHeld := hNew
 clear hNew
 try simp only [Act.put, List.setIfInBounds_toArray, List.set_cons_zero, List.set_cons_succ]
 refine wpAnyH_take (i := 21) (oi := ⟨some 48, _, _, _, _, _⟩) (v := ?_) rfl (by kernel_rfl) (by kernel_rfl) (by kernel_rfl) (fun _ _ _ h => h) (Or.inl ⟨by rfl, ?_⟩) (by assumption) ?_
 rotate_left
 ·intro w hSw; (try dsimp only at hSw); go_simp; try with_reducible rfl
 simp only [Act.put, List.setIfInBounds_toArray, List.set_cons_zero, List.set_cons_succ]
 refine wpAnyH_take (i := 22) (oi := ⟨some 49, _, _, _, _, _⟩) (v := ?_) rfl (by kernel_rfl) (by kernel_rfl) (by kernel_rfl) (fun _ _ _ h => h) (Or.inl ⟨by rfl, ?_⟩) (by assumption) ?_
 rotate_left
 ·intro w hSw; (try dsimp only at hSw); go_simp; try with_reducible rfl
 simp only [Act.put, List.setIfInBounds_toArray, List.set_cons_zero, List.set_cons_succ]
 refine wpAnyH_take (i := 23) (oi := ⟨some 50, _, _, _, _, _⟩) (v := ?_) rfl (by kernel_rfl) (by kernel_rfl) (by kernel_rfl) (fun _ _ _ h => h) (Or.inl ⟨by rfl, ?_⟩) (by assumption) ?_
 rotate_left
 ·intro w hSw; (try dsimp only at hSw); go_simp; try with_reducible rfl
 simp only [Act.put, List.setIfInBounds_toArray, List.set_cons_zero, List.set_cons_succ]
 refine wpAnyH_take (i := 24) (oi := ⟨some 51, _, _, _, _, _⟩) (v := ?_) rfl (by kernel_rfl) (by kernel_rfl) (by kernel_rfl) (fun _ _ _ h => h) (Or.inl ⟨by rfl, ?_⟩) (by assumption) ?_
 rotate_left
 ·intro w hSw; (try dsimp only at hSw); go_simp; try with_reducible rfl
 simp only [Act.put, List.setIfInBounds_toArray, List.set_cons_zero, List.set_cons_succ]
 refine wpAnyH_take (i := 25) (oi := ⟨some 52, _, _, _, _, _⟩) (v := ?_) rfl (by kernel_rfl) (by kernel_rfl) (by kernel_rfl) (fun _ _ _ h => h) (Or.inl ⟨by rfl, ?_⟩) (by assumption) ?_
 rotate_left
 ·intro w hSw; (try dsimp only at hSw); go_simp; try with_reducible rfl
 simp only [Act.put, List.setIfInBounds_toArray, List.set_cons_zero, List.set_cons_succ]
 refine wpAnyH_take (i := 26) (oi := ⟨some 53, _, _, _, _, _⟩) (v := ?_) rfl (by kernel_rfl) (by kernel_rfl) (by kernel_rfl) (fun _ _ _ h => h) (Or.inl ⟨by rfl, ?_⟩) (by assumption) ?_
 rotate_left
 ·intro w hSw; (try dsimp only at hSw); go_simp; try with_reducible rfl
 simp only [Act.put, List.setIfInBounds_toArray, List.set_cons_zero, List.set_cons_succ]
 refine wpAnyH_ready (rs := [27]) (by kernel_rfl) (by simp) ?_
 refine AllReadyH.cons (o := ⟨some 54, _, _, _, _, _⟩) rfl (fun K hK => ?_) AllReadyH.nil
 have nr := two_at17 U6
 replace H := H.alloc (.cells #[.int .i64 91, .int .i64 360, .int .i64 91, .int .i64 360] 48)
 replace HB := HB.alloc (HS.out _ HB) (.cells #[.int .i64 91, .int .i64 360, .int .i64 91, .int .i64 360] 48)
 go_simp
 refine hK.out _ _ (⟨H.cell (w3.heap.size) (0) (.slice a0 3 c0), H.cell (w3.heap.size) (1) (.slice a1 3 c1), H.cell (w3.heap.size) (2) (.slice a2 2 c2), H.cell (w3.heap.size) (4) (.int .i64 739082), H.cell (w3.heap.size) (5) (.int .i64 4), H.cell (w3.heap.size) (6) (.slice a3 0 c3), H.cell (w6.heap.size + 1) (0) (.int .i64 91), H.cell (w6.heap.size + 1) (1) (.int .i64 360)⟩) (fun hNew => ?_)
 clear hK K hHeld
 have hHeld := hNew
 clear hNew
 try simp only [Act.put, List.setIfInBounds_toArray, List.set_cons_zero, List.set_cons_succ]
 obtain ⟨T7, hT7⟩ : ∃ T, U6.heap.size = T := ⟨_, rfl⟩
 obtain ⟨U7, hU7⟩ : ∃ U, U6.alloc (.cells #[.int .i64 91, .int .i64 360, .int .i64 91, .int .i64 360] 48) = U := ⟨_, rfl⟩
 rw [hU7] at H HB hHeld nr ⊢
 rw [hT7] at nr
 (try rw [hT7])
 replace H := H.add (f := ratF (some ⟨T7, 0, none⟩) (fun _ => 91) (fun _ => 360) 2 2) nr
 clear hT7 hU7 nr
 refine wpAnyH_ready (rs := [28]) (by kernel_rfl) (by simp) ?_
 refine AllReadyH.cons (o := ⟨some 55, _, _, _, _, _⟩) rfl (fun K hK => ?_) AllReadyH.nil
 go_simp
 (with_reducible refine (zI8 a2 2 c2 (fun _ => 91) (fun _ => 360) (some ⟨T7, 0, none⟩) 2 (fun _ => 91) (fun _ => 360) _ (by omega) (H.rat (ao := a2) (P := fun _ => 91) (Q := fun _ => 360) (n := 2) (cap := c2)) (H.rat (ao := (some ⟨T7, 0, none⟩)) (P := fun _ => 91) (Q := fun _ => 360) (n := 2) (cap := 2)) (fun _ _ => ⟨rfl, rfl⟩)).mono ?_)
 rintro e U8 ⟨rfl, hb⟩
 replace H := H.below hb
 replace HB := HB.trans (hb.mono (HS.out _ HB))
 clear hb
 go_wp2_with fail
 refine hK.out _ _ (⟨H.cell (w3.heap.size) (0) (.slice a0 3 c0), H.cell (w3.heap.size) (1) (.slice a1 3 c1), H.cell (w3.heap.size) (2) (.slice a2 2 c2), H.cell (w3.heap.size) (4) (.int .i64 739082), H.cell (w3.heap.size) (5) (.int .i64 4), H.cell (w3.heap.size) (6) (.slice a3 0 c3), H.cell (w6.heap.size + 1) (0) (.int .i64 91), H.cell (w6.heap.size + 1) (1) (.int .i64 360)⟩) (fun hNew => ?_)
 clear hK K hHeld
 have hHeld := hNew
 clear hNew
 try simp only [Act.put, List.setIfInBounds_toArray, List.set_cons_zero, List.set_cons_succ]
 refine wpAnyH_take (i := 29) (oi := ⟨some 56, _, _, _, _, _⟩) (v := ?_) rfl (by kernel_rfl) (by kernel_rfl) (by kernel_rfl) (fun _ _ _ h => h) (Or.inl ⟨by rfl, ?_⟩) (by assumption) ?_
 rotate_left
 ·intro w hSw; (try dsimp only at hSw); go_simp; try with_reducible rfl
 simp only [Act.put, List.setIfInBounds_toArray, List.set_cons_zero, List.set_cons_succ]
 refine wpAnyH_take (i := 30) (oi := ⟨some 57, _, _, _, _, _⟩) (v := ?_) rfl (by kernel_rfl) (by kernel_rfl) (by kernel_rfl) (fun _ _ _ h => h) (Or.inl ⟨by rfl, ?_⟩) (by assumption) ?_
 rotate_left
 ·intro w hSw; (try dsimp only at hSw); go_simp; try with_reducible rfl
 simp only [Act.put, List.setIfInBounds_toArray, List.set_cons_zero, List.set_cons_succ]
 refine wpAnyH_take (i := 31) (oi := ⟨some 58, _, _, _, _, _⟩) (v := ?_) rfl (by kernel_rfl) (by kernel_rfl) (by kernel_rfl) (fun _ _ _ h => h) (Or.inl ⟨by rfl, ?_⟩) (by assumption) ?_
 rotate_left
 ·intro w hSw; (try dsimp only at hSw); go_simp; try with_reducible rfl
 simp only [Act.put, List.setIfInBounds_toArray, List.set_cons_zero, List.set_cons_succ]
 refine wpAnyH_take (i := 32) (oi := ⟨some 59, _, _, _, _, _⟩) (v := ?_) rfl (by kernel_rfl) (by kernel_rfl) (by kernel_rfl) (fun _ _ _ h => h) (Or.inl ⟨by rfl, ?_⟩) (by assumption) ?_
 rotate_left
 ·intro w hSw; (try dsimp only at hSw); go_simp; try with_reducible rfl
 simp only [Act.put, List.setIfInBounds_toArray, List.set_cons_zero, List.set_cons_succ]
 refine wpAnyH_take (i := 33) (oi := ⟨some 60, _, _, _, _, _⟩) (v := ?_) rfl (by kernel_rfl) (by kernel_rfl) (by kernel_rfl) (fun _ _ _ h => h) (Or.inl ⟨by rfl, ?_⟩) (by assumption) ?_
 rotate_left
 ·intro w hSw; (try dsimp only at hSw); go_simp; try with_reducible rfl
 simp only [Act.put, List.setIfInBounds_toArray, List.set_cons_zero, List.set_cons_succ]
 refine wpAnyH_ready (rs := [34]) (by kernel_rfl) (by simp) ?_
 refine AllReadyH.cons (o := ⟨some 61, _, _, _, _, _⟩) rfl (fun K hK => ?_) AllReadyH.nil
 go_simp
 (with_reducible refine (zC7 2024 7 15 739082 _ (by decide +kernel)).mono ?_)
 rintro e U9 ⟨rfl, hb⟩
 replace H := H.below hb
 replace HB := HB.trans (hb.mono (HS.out _ HB))
 clear hb
 go_wp2_with fail
 refine hK.out _ _ (⟨H.cell (w3.heap.size) (0) (.slice a0 3 c0), H.cell (w3.heap.size) (1) (.slice a1 3 c1), H.cell (w3.heap.size) (2) (.slice a2 2 c2), H.cell (w3.heap.size) (4) (.int .i64 739082), H.cell (w3.heap.size) (5) (.int .i64 4), H.cell (w3.heap.size) (6) (.slice a3 0 c3), H.cell (w6.heap.size + 1) (0) (.int .i64 91), H.cell (w6.heap.size + 1) (1) (.int .i64 360)⟩) (fun hNew => ?_)
 clear hK K hHeld
 have hHeld := hNew
 clear hNew
 try simp only [Act.put, List.setIfInBounds_toArray, List.set_cons_zero, List.set_cons_succ]
 refine wpAnyH_take (i := 35) (oi := ⟨some 62, _, _, _, _, _⟩) (v := ?_) rfl (by kernel_rfl) (by kernel_rfl) (by kernel_rfl) (fun _ _ _ h => h) (Or.inl ⟨by rfl, ?_⟩) (by assumption) ?_
 rotate_left
 ·intro w hSw; (try dsimp only at hSw); go_simp; try with_reducible rfl
 simp only [Act.put, List.setIfInBounds_toArray, List.set_cons_zero, List.set_cons_succ]
 refine wpAnyH_take (i := 36) (oi := ⟨some 63, _, _, _, _, _⟩) (v := ?_) rfl (by kernel_rfl) (by kernel_rfl) (by kernel_rfl) (fun _ _ _ h => h) (Or.inl ⟨by rfl, ?_⟩) (by assumption) ?_
 rotate_left
 ·intro w hSw; (try dsimp only at hSw); go_simp; try with_reducible rfl
 simp only [Act.put, List.setIfInBounds_toArray, List.set_cons_zero, List.set_cons_succ]
 refine wpAnyH_take (i := 37) (oi := ⟨some 64, _, _, _, _, _⟩) (v := ?_) rfl (by kernel_rfl) (by kernel_rfl) (by kernel_rfl) (fun _ _ _ h => h) (Or.inl ⟨by rfl, ?_⟩) (by assumption) ?_
 rotate_left
 ·intro w hSw; (try dsimp only at hSw); go_simp; try with_reducible rfl
 simp only [Act.put, List.setIfInBounds_toArray, List.set_cons_zero, List.set_cons_succ]
 refine wpAnyH_take (i := 38) (oi := ⟨some 65, _, _, _, _, _⟩) (v := ?_) rfl (by kernel_rfl) (by kernel_rfl) (by kernel_rfl) (fun _ _ _ h => h) (Or.inl ⟨by rfl, ?_⟩) (by assumption) ?_
 rotate_left
 ·intro w hSw; (try dsimp only at hSw); go_simp; try with_reducible rfl
 simp only [Act.put, List.setIfInBounds_toArray, List.set_cons_zero, List.set_cons_succ]
 refine wpAnyH_take (i := 39) (oi := ⟨some 66, _, _, _, _, _⟩) (v := ?_) rfl (by kernel_rfl) (by kernel_rfl) (by kernel_rfl) (fun _ _ _ h => h) (Or.inl ⟨by rfl, ?_⟩) (by assumption) ?_
 rotate_left
 ·intro w hSw; (try dsimp only at hSw); go_simp; try with_reducible rfl
 simp only [Act.put, List.setIfInBounds_toArray, List.set_cons_zero, List.set_cons_succ]
 refine wpAnyH_take (i := 40) (oi := ⟨some 67, _, _, _, _, _⟩) (v := ?_) rfl (by kernel_rfl) (by kernel_rfl) (by kernel_rfl) (fun _ _ _ h => h) (Or.inl ⟨by rfl, ?_⟩) (by assumption) ?_
 rotate_left
 ·intro w hSw; (try dsimp only at hSw); go_simp; try with_reducible rfl
 simp only [Act.put, List.setIfInBounds_toArray, List.set_cons_zero, List.set_cons_succ]
 refine wpAnyH_take (i := 41) (oi := ⟨some 68, _, _, _, _, _⟩) (v := ?_) rfl (by kernel_rfl) (by kernel_rfl) (by kernel_rfl) (fun _ _ _ h => h) (Or.inl ⟨by rfl, ?_⟩) (by assumption) ?_
 rotate_left
 ·intro w hSw; (try dsimp only at hSw); go_simp; try with_reducible rfl
 simp only [Act.put, List.setIfInBounds_toArray, List.set_cons_zero, List.set_cons_succ]
 refine wpAnyH_take (i := 42) (oi := ⟨some 69, _, _, _, _, _⟩) (v := ?_) rfl (by kernel_rfl) (by kernel_rfl) (by kernel_rfl) (fun _ _ _ h => h) (Or.inl ⟨by rfl, ?_⟩) (by assumption) ?_
 rotate_left
 ·intro w hSw; (try dsimp only at hSw); go_simp; try with_reducible rfl
 simp only [Act.put, List.setIfInBounds_toArray, List.set_cons_zero, List.set_cons_succ]
 refine wpAnyH_take (i := 43) (oi := ⟨some 70, _, _, _, _, _⟩) (v := ?_) rfl (by kernel_rfl) (by kernel_rfl) (by kernel_rfl) (fun _ _ _ h => h) (Or.inl ⟨by rfl, ?_⟩) (by assumption) ?_
 rotate_left
 ·intro w hSw; (try dsimp only at hSw); go_simp; try with_reducible rfl
 simp only [Act.put, List.setIfInBounds_toArray, List.set_cons_zero, List.set_cons_succ]
 refine wpAnyH_take (i := 44) (oi := ⟨some 71, _, _, _, _, _⟩) (v := ?_) rfl (by kernel_rfl) (by kernel_rfl) (by kernel_rfl) (fun _ _ _ h => h) (Or.inl ⟨by rfl, ?_⟩) (by assumption) ?_
 rotate_left
 ·intro w hSw; (try dsimp only at hSw); go_simp; try with_reducible rfl
 simp only [Act.put, List.setIfInBounds_toArray, List.set_cons_zero, List.set_cons_succ]
 refine wpAnyH_take (i := 45) (oi := ⟨some 72, _, _, _, _, _⟩) (v := ?_) rfl (by kernel_rfl) (by kernel_rfl) (by kernel_rfl) (fun _ _ _ h => h) (Or.inl ⟨by rfl, ?_⟩) (by assumption) ?_
 rotate_left
 ·intro w hSw; (try dsimp only at hSw); go_simp; try with_reducible rfl
 simp only [Act.put, List.setIfInBounds_toArray, List.set_cons_zero, List.set_cons_succ]
 refine wpAnyH_take (i := 46) (oi := ⟨some 73, _, _, _, _, _⟩) (v := ?_) rfl (by kernel_rfl) (by kernel_rfl) (by kernel_rfl) (fun _ _ _ h => h) (Or.inl ⟨by rfl, ?_⟩) (by assumption) ?_
 rotate_left
 ·intro w hSw; (try dsimp only at hSw); go_simp; try with_reducible rfl
 simp only [Act.put, List.setIfInBounds_toArray, List.set_cons_zero, List.set_cons_succ]
 refine wpAnyH_take (i := 47) (oi := ⟨some 74, _, _, _, _, _⟩) (v := ?_) rfl (by kernel_rfl) (by kernel_rfl) (by kernel_rfl) (fun _ _ _ h => h) (Or.inl ⟨by rfl, ?_⟩) (by assumption) ?_
 rotate_left
 ·intro w hSw; (try dsimp only at hSw); go_simp; try with_reducible rfl
 simp only [Act.put, List.setIfInBounds_toArray, List.set_cons_zero, List.set_cons_succ]
 refine wpAnyH_take (i := 48) (oi := ⟨some 75, _, _, _, _, _⟩) (v := ?_) rfl (by kernel_rfl) (by kernel_rfl) (by kernel_rfl) (fun _ _ _ h => h) (Or.inl ⟨by rfl, ?_⟩) (by assumption) ?_
 rotate_left
 ·intro w hSw; (try dsimp only at hSw); go_simp; try with_reducible rfl
 simp only [Act.put, List.setIfInBounds_toArray, List.set_cons_zero, List.set_cons_succ]
 refine wpAnyH_take (i := 49) (oi := ⟨some 76, _, _, _, _, _⟩) (v := ?_) rfl (by kernel_rfl) (by kernel_rfl) (by kernel_rfl) (fun _ _ _ h => h) (Or.inl ⟨by rfl, ?_⟩) (by assumption) ?_
 rotate_left
 ·intro w hSw; (try dsimp only at hSw); go_simp; try with_reducible rfl
 simp only [Act.put, List.setIfInBounds_toArray, List.set_cons_zero, List.set_cons_succ]
 refine wpAnyH_take (i := 50) (oi := ⟨some 0, _, _, _, _, _⟩) (v := ?_) rfl (by kernel_rfl) (by kernel_rfl) (by kernel_rfl) (fun _ _ _ h => h) (Or.inl ⟨by rfl, ?_⟩) (by assumption) ?_
 rotate_left
 ·intro w hSw; (try dsimp only at hSw); go_simp; try with_reducible rfl
 simp only [Act.put, List.setIfInBounds_toArray, List.set_cons_zero, List.set_cons_succ]
 refine wpAnyH_done (by kernel_rfl) ?_ _
 clear hHeld
 go_wp2
 go_ret
 exact ⟨rfl, H.old⟩
end Go.Proofs.YtpfgdfpaoldhcaaGreatDoor
