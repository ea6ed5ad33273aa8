/- Several texts in one: ScOf, ScRef. -/
import Derived.Test.YtpfgdfpaoldhcaaGreatDoorSoBA
set_option maxHeartbeats 8000000
set_option maxRecDepth 100000
set_option linter.unusedVariables false
set_option linter.unusedSimpArgs false
namespace Go.Proofs.YtpfgdfpaoldhcaaGreatDoor
open Go.RowKit
theorem RatAt.set {W : World} {ao : Option Addr} {P Q : Nat → Int} {n cap B o : Nat} (h : RatAt W ao P Q n cap) (hne : ∀ g, ao = some g → g.block ≠ B) (u : Value) : RatAt (W.setCell ⟨B, o, none⟩ u) ao P Q n cap :=
 ⟨h.1, fun hn => by
  obtain ⟨b, off, e, hc⟩ := h.2 hn
  have := hne _ e
  exact ⟨b, off, e, fun j hj => ⟨zA3 (hc j hj).1 (Or.inl this) u, zA3 (hc j hj).2 (Or.inl this) u⟩⟩⟩
theorem PlanIs.pos {t : Tm} {c : Ca} {x : Pl} (h : PlanIs t c x) : (∀ j, j < x.n t → 1 ≤ t.dd x.X x.q j) ∧ (∀ j, j < x.n t → 1 ≤ x.V j) ∧ ∀ j, j < x.ng t → 1 ≤ x.GV j := by
 by_cases hx : x.code t = 0
 ·obtain ⟨hc, h1, h2, -⟩ := Pl.good hx
  have hn : x.n t = x.q + 1 + 1 := by unfold Pl.n; rw [if_pos hx]
  have hg : x.ng t = x.ns t := by unfold Pl.ng; rw [if_pos hx]
  have hk : x.ns t ≤ x.K := by unfold Pl.ns; split <;> omega
  rw [hn, hg]
  refine ⟨fun j hj => (h.dday hc (by omega)).1, fun j hj => ?_, fun j hj => ?_⟩
  ·have g := h.roll j (by omega)
   rw [h1 j (by omega)] at g
   exact g.day
  ·have g := h.grid j (by omega)
   rw [h2 j hj] at g
   exact g.day
 ·have hn : x.n t = 0 := by unfold Pl.n; rw [if_neg hx]
  have hg : x.ng t = 0 := by unfold Pl.ng; rw [if_neg hx]
  rw [hn, hg]
  exact ⟨fun j hj => absurd hj (Nat.not_lt_zero j), fun j hj => absurd hj (Nat.not_lt_zero j), fun j hj => absurd hj (Nat.not_lt_zero j)⟩
theorem zDg (t : Tm) (c : Ca) (aR : Option Addr) (cR : Nat) (aD : Option Addr) (cD : Nat) (x : Pl) (w : World) (hF : FactsS w) (hC : CalAt w c aR cR aD cD) (hM : c.May) (hP : PlanIs t c x) (hS : t.code = 0 → x.Short) : Calls Tryz.prog 11 #[.agg #[.int .i64 t.mo, .int .i64 t.ra, .int .i64 t.ki, .int .i64 t.co, .int .i64 t.st, .int .i64 t.en, .int .i64 t.ms, .bool t.bk, .bool t.lg, .bool t.eo, .int .i64 t.ro], .agg #[.bool (c.o 0), .bool (c.o 1), .bool (c.o 2), .bool (c.o 3), .bool (c.o 4), .bool (c.o 5), .bool (c.o 6), .slice aR c.nr cR, .slice aD c.nd cD]] w fun e w' => PlanOut x t w.heap.size e w' ∧ Below w.heap.size w w' := by
 have H := ((Held.start w).add (f := zA9) hF).add (f := calF c aR cR aD cD) hC
 have LA := Lib.hid (fun v h1 h2 => slay_any t c aR cR aD cD x v h1 h2 hM hP hS)
 obtain ⟨p0, p1, p3⟩ := hP.pos
 clear hF hC hM hP hS
 go_enter Tryz.func11, Tryz.ntmps11
 go_wp2_with fail
 replace H := H.alloc (.cells #[.int .i64 t.mo, .int .i64 t.ra, .int .i64 t.ki, .int .i64 t.co, .int .i64 t.st, .int .i64 t.en, .int .i64 t.ms, .bool t.bk, .bool t.lg, .bool t.eo, .int .i64 t.ro] 23)
 replace H := H.alloc (.cells #[.bool (c.o 0), .bool (c.o 1), .bool (c.o 2), .bool (c.o 3), .bool (c.o 4), .bool (c.o 5), .bool (c.o 6), .slice aR c.nr cR, .slice aD c.nd cD] 28)
 replace H := H.box_7 (w.heap.size + 2) (.slice none 0 0) (.slice none 0 0) (.slice none 0 0) (.bool false) (.int .i64 0) (.int .i64 0) (.slice none 0 0) 35 (by simp)
 (with_reducible refine (LA.out _ (H.factsS) (H.cal (c := c) (aR := aR) (cR := cR) (aD := aD) (cD := cD))).mono ?_)
 rintro e w1 ⟨⟨a0, a1, a2, a3, c0, c1, c2, c3, rfl, hd0, hd1, hd2, hd3, hbl⟩, hb⟩
 replace H := H.below hb
 have hne : ∀ g, a2 = some g → g.block ≠ w.heap.size + 2 := fun g hg => by have := hbl g hg; simp at this; omega
 have hbl2 : ∀ g, a2 = some g → w.heap.size ≤ g.block := fun g hg => by have := hbl g hg; simp at this; omega
 clear hb LA hbl
 have k0 := H.cell (w.heap.size + 2) 0 (.slice none 0 0)
 have f0 := H.frozen (w.heap.size + 2) 0
 have k1 := H.cell (w.heap.size + 2) 1 (.slice none 0 0)
 have f1 := H.frozen (w.heap.size + 2) 1
 have k2 := H.cell (w.heap.size + 2) 2 (.slice none 0 0)
 have f2 := H.frozen (w.heap.size + 2) 2
 have k3 := H.cell (w.heap.size + 2) 3 (.bool false)
 have f3 := H.frozen (w.heap.size + 2) 3
 have k4 := H.cell (w.heap.size + 2) 4 (.int .i64 0)
 have f4 := H.frozen (w.heap.size + 2) 4
 have k5 := H.cell (w.heap.size + 2) 5 (.int .i64 0)
 have f5 := H.frozen (w.heap.size + 2) 5
 have k6 := H.cell (w.heap.size + 2) 6 (.slice none 0 0)
 have f6 := H.frozen (w.heap.size + 2) 6
 have lk := zA0 k0
 replace hd0 := zA6 hd0 k0 (fun j hj e => by cases e) (.slice a0 (x.n t) c0)
 replace hd0 := zA6 hd0 (zA3 k1 (Or.inr (by decide)) _) (fun j hj e => by cases e) (.slice a1 (x.n t) c1)
 replace hd0 := zA6 hd0 (zA3 (zA3 k2 (Or.inr (by decide)) _) (Or.inr (by decide)) _) (fun j hj e => by cases e) (.slice a2 (x.np t) c2)
 replace hd0 := zA6 hd0 (zA3 (zA3 (zA3 k3 (Or.inr (by decide)) _) (Or.inr (by decide)) _) (Or.inr (by decide)) _) (fun j hj e => by cases e) (.bool (x.eo t))
 replace hd0 := zA6 hd0 (zA3 (zA3 (zA3 (zA3 k4 (Or.inr (by decide)) _) (Or.inr (by decide)) _) (Or.inr (by decide)) _) (Or.inr (by decide)) _) (fun j hj e => by injection e with _ e; have := p0 j hj; omega) (.int .i64 (x.en t))
 replace hd0 := zA6 hd0 (zA3 (zA3 (zA3 (zA3 (zA3 k5 (Or.inr (by decide)) _) (Or.inr (by decide)) _) (Or.inr (by decide)) _) (Or.inr (by decide)) _) (Or.inr (by decide)) _) (fun j hj e => by injection e with _ e; have := p0 j hj; omega) (.int .i64 (x.f t))
 replace hd0 := zA6 hd0 (zA3 (zA3 (zA3 (zA3 (zA3 (zA3 k6 (Or.inr (by decide)) _) (Or.inr (by decide)) _) (Or.inr (by decide)) _) (Or.inr (by decide)) _) (Or.inr (by decide)) _) (Or.inr (by decide)) _) (fun j hj e => by cases e) (.slice a3 (x.ng t) c3)
 replace hd1 := zA6 hd1 k0 (fun j hj e => by cases e) (.slice a0 (x.n t) c0)
 replace hd1 := zA6 hd1 (zA3 k1 (Or.inr (by decide)) _) (fun j hj e => by cases e) (.slice a1 (x.n t) c1)
 replace hd1 := zA6 hd1 (zA3 (zA3 k2 (Or.inr (by decide)) _) (Or.inr (by decide)) _) (fun j hj e => by cases e) (.slice a2 (x.np t) c2)
 replace hd1 := zA6 hd1 (zA3 (zA3 (zA3 k3 (Or.inr (by decide)) _) (Or.inr (by decide)) _) (Or.inr (by decide)) _) (fun j hj e => by cases e) (.bool (x.eo t))
 replace hd1 := zA6 hd1 (zA3 (zA3 (zA3 (zA3 k4 (Or.inr (by decide)) _) (Or.inr (by decide)) _) (Or.inr (by decide)) _) (Or.inr (by decide)) _) (fun j hj e => by injection e with _ e; have := p1 j hj; omega) (.int .i64 (x.en t))
 replace hd1 := zA6 hd1 (zA3 (zA3 (zA3 (zA3 (zA3 k5 (Or.inr (by decide)) _) (Or.inr (by decide)) _) (Or.inr (by decide)) _) (Or.inr (by decide)) _) (Or.inr (by decide)) _) (fun j hj e => by injection e with _ e; have := p1 j hj; omega) (.int .i64 (x.f t))
 replace hd1 := zA6 hd1 (zA3 (zA3 (zA3 (zA3 (zA3 (zA3 k6 (Or.inr (by decide)) _) (Or.inr (by decide)) _) (Or.inr (by decide)) _) (Or.inr (by decide)) _) (Or.inr (by decide)) _) (Or.inr (by decide)) _) (fun j hj e => by cases e) (.slice a3 (x.ng t) c3)
 replace hd3 := zA6 hd3 k0 (fun j hj e => by cases e) (.slice a0 (x.n t) c0)
 replace hd3 := zA6 hd3 (zA3 k1 (Or.inr (by decide)) _) (fun j hj e => by cases e) (.slice a1 (x.n t) c1)
 replace hd3 := zA6 hd3 (zA3 (zA3 k2 (Or.inr (by decide)) _) (Or.inr (by decide)) _) (fun j hj e => by cases e) (.slice a2 (x.np t) c2)
 replace hd3 := zA6 hd3 (zA3 (zA3 (zA3 k3 (Or.inr (by decide)) _) (Or.inr (by decide)) _) (Or.inr (by decide)) _) (fun j hj e => by cases e) (.bool (x.eo t))
 replace hd3 := zA6 hd3 (zA3 (zA3 (zA3 (zA3 k4 (Or.inr (by decide)) _) (Or.inr (by decide)) _) (Or.inr (by decide)) _) (Or.inr (by decide)) _) (fun j hj e => by injection e with _ e; have := p3 j hj; omega) (.int .i64 (x.en t))
 replace hd3 := zA6 hd3 (zA3 (zA3 (zA3 (zA3 (zA3 k5 (Or.inr (by decide)) _) (Or.inr (by decide)) _) (Or.inr (by decide)) _) (Or.inr (by decide)) _) (Or.inr (by decide)) _) (fun j hj e => by injection e with _ e; have := p3 j hj; omega) (.int .i64 (x.f t))
 replace hd3 := zA6 hd3 (zA3 (zA3 (zA3 (zA3 (zA3 (zA3 k6 (Or.inr (by decide)) _) (Or.inr (by decide)) _) (Or.inr (by decide)) _) (Or.inr (by decide)) _) (Or.inr (by decide)) _) (Or.inr (by decide)) _) (fun j hj e => by cases e) (.slice a3 (x.ng t) c3)
 replace hd2 := hd2.set (B := w.heap.size + 2) (o := 0) hne (.slice a0 (x.n t) c0)
 replace hd2 := hd2.set (B := w.heap.size + 2) (o := 1) hne (.slice a1 (x.n t) c1)
 replace hd2 := hd2.set (B := w.heap.size + 2) (o := 2) hne (.slice a2 (x.np t) c2)
 replace hd2 := hd2.set (B := w.heap.size + 2) (o := 3) hne (.bool (x.eo t))
 replace hd2 := hd2.set (B := w.heap.size + 2) (o := 4) hne (.int .i64 (x.en t))
 replace hd2 := hd2.set (B := w.heap.size + 2) (o := 5) hne (.int .i64 (x.f t))
 replace hd2 := hd2.set (B := w.heap.size + 2) (o := 6) hne (.slice a3 (x.ng t) c3)
 have hO : Below w.heap.size w (((((((w1.setCell ⟨w.heap.size + 2, 0, none⟩ (.slice a0 (x.n t) c0)).setCell ⟨w.heap.size + 2, 1, none⟩ (.slice a1 (x.n t) c1)).setCell ⟨w.heap.size + 2, 2, none⟩ (.slice a2 (x.np t) c2)).setCell ⟨w.heap.size + 2, 3, none⟩ (.bool (x.eo t))).setCell ⟨w.heap.size + 2, 4, none⟩ (.int .i64 (x.en t))).setCell ⟨w.heap.size + 2, 5, none⟩ (.int .i64 (x.f t))).setCell ⟨w.heap.size + 2, 6, none⟩ (.slice a3 (x.ng t) c3)) := (((((((H.old.setCell (p := ⟨w.heap.size + 2, 0, none⟩) (by simp) (.slice a0 (x.n t) c0)).setCell (p := ⟨w.heap.size + 2, 1, none⟩) (by simp) (.slice a1 (x.n t) c1)).setCell (p := ⟨w.heap.size + 2, 2, none⟩) (by simp) (.slice a2 (x.np t) c2)).setCell (p := ⟨w.heap.size + 2, 3, none⟩) (by simp) (.bool (x.eo t))).setCell (p := ⟨w.heap.size + 2, 4, none⟩) (by simp) (.int .i64 (x.en t))).setCell (p := ⟨w.heap.size + 2, 5, none⟩) (by simp) (.int .i64 (x.f t))).setCell (p := ⟨w.heap.size + 2, 6, none⟩) (by simp) (.slice a3 (x.ng t) c3))
 have HD0 := Lib.hid hd0
 have HD1 := Lib.hid hd1
 have HD2 := Lib.hid hd2
 have HD3 := Lib.hid hd3
 have HO := Lib.hid hO
 have HBL := Lib.hid hbl2
 clear H hd0 hd1 hd2 hd3 hO p0 p1 p3 hne hbl2
 go_wp2
 refine bodyPost_ret (v := .tuple #[.agg #[.slice a0 (x.n t) c0, .slice a1 (x.n t) c1, .slice a2 (x.np t) c2, .bool (x.eo t), .int .i64 (x.en t), .int .i64 (x.f t), .slice a3 (x.ng t) c3], .int .i64 (x.code t)]) (by simp [results, Tryz.results11, go_sem, k0, k1, k2, k3, k4, k5, k6, lk]) rfl ⟨⟨a0, a1, a2, a3, c0, c1, c2, c3, rfl, HD0.out, HD1.out, HD2.out, HD3.out, HBL.out⟩, HO.out⟩
theorem zK7 (c : Ca) (aR : Option Addr) (cR : Nat) (aD : Option Addr) (cD : Nat) (b : Bool) (w : World) (hC : CalAt w c aR cR aD cD) (h : b = true ↔ c.May) : Calls Tryz.prog 24 #[.agg #[.bool (c.o 0), .bool (c.o 1), .bool (c.o 2), .bool (c.o 3), .bool (c.o 4), .bool (c.o 5), .bool (c.o 6), .slice aR c.nr cR, .slice aD c.nd cD]] w fun e w' => e = .returned (.bool b) ∧ Below w.heap.size w w' := by
 have H := (Held.start w).add (f := calF c aR cR aD cD) hC
 have HB := Lib.hid h
 clear h hC
 go_enter Tryz.func24, Tryz.ntmps24
 replace H := H.box_9 (w.heap.size) (.bool (c.o 0)) (.bool (c.o 1)) (.bool (c.o 2)) (.bool (c.o 3)) (.bool (c.o 4)) (.bool (c.o 5)) (.bool (c.o 6)) (.slice aR c.nr cR) (.slice aD c.nd cD) 28 rfl
 have k0 := H.cell (w.heap.size) 0 (.bool (c.o 0)) i0_
 have k1 := H.cell (w.heap.size) 1 (.bool (c.o 1)) i1_
 have k2 := H.cell (w.heap.size) 2 (.bool (c.o 2)) i2_
 have k3 := H.cell (w.heap.size) 3 (.bool (c.o 3)) i3_
 have k4 := H.cell (w.heap.size) 4 (.bool (c.o 4)) i4_
 have k5 := H.cell (w.heap.size) 5 (.bool (c.o 5)) i5_
 have k6 := H.cell (w.heap.size) 6 (.bool (c.o 6)) i6_
 have k7 := H.cell (w.heap.size) 7 (.slice aR c.nr cR) i7_
 have k8 := H.cell (w.heap.size) 8 (.slice aD c.nd cD) i8_
 go_wp2_with fail
 go_loopw [3, 4] (fun u i W' => ∃ (j : Nat) (x : Bool), j ≤ 7 ∧ i = .int .i64 j ∧ u = .bool x ∧ (x = true ↔ ∃ l, l < j ∧ c.o l = false) ∧ Held w (.cell (w.heap.size) 0 (.bool (c.o 0)) :: .cell (w.heap.size) 1 (.bool (c.o 1)) :: .cell (w.heap.size) 2 (.bool (c.o 2)) :: .cell (w.heap.size) 3 (.bool (c.o 3)) :: .cell (w.heap.size) 4 (.bool (c.o 4)) :: .cell (w.heap.size) 5 (.bool (c.o 5)) :: .cell (w.heap.size) 6 (.bool (c.o 6)) :: .cell (w.heap.size) 7 (.slice aR c.nr cR) :: .cell (w.heap.size) 8 (.slice aD c.nd cD) :: .free (w.heap.size) 0 :: .free (w.heap.size) 1 :: .free (w.heap.size) 2 :: .free (w.heap.size) 3 :: .free (w.heap.size) 4 :: .free (w.heap.size) 5 :: .free (w.heap.size) 6 :: .free (w.heap.size) 7 :: .free (w.heap.size) 8 :: calF c aR cR aD cD :: []) W') (fun _ i _ => 7 - (intOf i).toNat)
 case atStart => exact ⟨0, false, by omega, rfl, rfl, ⟨fun g => absurd g (by decide), fun ⟨l, g, _⟩ => absurd g (by omega)⟩, H⟩
 case round =>
  clear H k0 k1 k2 k3 k4 k5 k6 k7 k8
  obtain ⟨j, x, j1, rfl, rfl, hx, H⟩ := hrel
  have HX := Lib.hid hx
  clear hx
  have k0 := H.cell (w.heap.size) 0 (.bool (c.o 0)) i0_
  have k1 := H.cell (w.heap.size) 1 (.bool (c.o 1)) i1_
  have k2 := H.cell (w.heap.size) 2 (.bool (c.o 2)) i2_
  have k3 := H.cell (w.heap.size) 3 (.bool (c.o 3)) i3_
  have k4 := H.cell (w.heap.size) 4 (.bool (c.o 4)) i4_
  have k5 := H.cell (w.heap.size) 5 (.bool (c.o 5)) i5_
  have k6 := H.cell (w.heap.size) 6 (.bool (c.o 6)) i6_
  have k7 := H.cell (w.heap.size) 7 (.slice aR c.nr cR) i7_
  have k8 := H.cell (w.heap.size) 8 (.slice aD c.nd cD) i8_
  have lk := H.lt (w.heap.size) 0 (.bool (c.o 0)) (i0_)
  by_cases hj : j < 7
  ·have kv := off_at hj k0 k1 k2 k3 k4 k5 k6
   obtain ⟨y, hy⟩ : ∃ y, c.o j = y := ⟨_, rfl⟩
   rw [hy] at kv
   have HY := Lib.hid hy
   clear hy
   have NX : Hid ((x || !y) = true ↔ ∃ l, l < j + 1 ∧ c.o l = false) := Lib.hid (by
    rw [Bool.or_eq_true, Bool.not_eq_true', HX.out]
    constructor
    ·rintro (⟨l, g1, g2⟩ | g)
     ·exact ⟨l, by omega, g2⟩
     ·exact ⟨j, by omega, by rw [HY.out]; exact g⟩
    ·rintro ⟨l, g1, g2⟩
     by_cases e : l = j
     ·subst e; right; rw [← HY.out]; exact g2
     ·left; exact ⟨l, by omega, g2⟩)
   cases x
   ·go_wp2
    go_roundw
    case rel => exact ⟨j + 1, _, by omega, by go_num, rfl, NX.out, H⟩
    case measure => simp [intOf]; omega
   ·go_wp2
    go_roundw
    case rel => exact ⟨j + 1, _, by omega, by go_num, rfl, NX.out, H⟩
    case measure => simp [intOf]; omega
  ·obtain rfl : j = 7 := by omega
   cases x with
   | false =>
    have e : b = false := zB2 HB.out (fun g => absurd (HX.out.2 g.1) (by decide))
    subst e
    go_wp2
    go_ret
    exact ⟨rfl, H.old⟩
   | true =>
    by_cases hr : c.nr ≤ 100
    ·by_cases hd : c.nd ≤ 1000
     ·go_wp2_with fail
      clear k0 k1 k2 k3 k4 k5 k6 k7 k8 lk
      go_loopw [5] (fun i W' => ∃ j : Nat, j ≤ c.nr ∧ i = .int .i64 j ∧ (∀ l, l < j → (c.R l).May) ∧ Held w (.cell (w.heap.size) 0 (.bool (c.o 0)) :: .cell (w.heap.size) 1 (.bool (c.o 1)) :: .cell (w.heap.size) 2 (.bool (c.o 2)) :: .cell (w.heap.size) 3 (.bool (c.o 3)) :: .cell (w.heap.size) 4 (.bool (c.o 4)) :: .cell (w.heap.size) 5 (.bool (c.o 5)) :: .cell (w.heap.size) 6 (.bool (c.o 6)) :: .cell (w.heap.size) 7 (.slice aR c.nr cR) :: .cell (w.heap.size) 8 (.slice aD c.nd cD) :: .free (w.heap.size) 0 :: .free (w.heap.size) 1 :: .free (w.heap.size) 2 :: .free (w.heap.size) 3 :: .free (w.heap.size) 4 :: .free (w.heap.size) 5 :: .free (w.heap.size) 6 :: .free (w.heap.size) 7 :: .free (w.heap.size) 8 :: calF c aR cR aD cD :: []) W') (fun i _ => c.nr - (intOf i).toNat)
      case atStart => exact ⟨0, by omega, rfl, fun l g => by omega, H⟩
      case round =>
       clear H
       obtain ⟨j, j1, rfl, hR, H⟩ := hrel
       have HR := Lib.hid hR
       clear hR
       have k0 := H.cell (w.heap.size) 0 (.bool (c.o 0)) i0_
       have k1 := H.cell (w.heap.size) 1 (.bool (c.o 1)) i1_
       have k2 := H.cell (w.heap.size) 2 (.bool (c.o 2)) i2_
       have k3 := H.cell (w.heap.size) 3 (.bool (c.o 3)) i3_
       have k4 := H.cell (w.heap.size) 4 (.bool (c.o 4)) i4_
       have k5 := H.cell (w.heap.size) 5 (.bool (c.o 5)) i5_
       have k6 := H.cell (w.heap.size) 6 (.bool (c.o 6)) i6_
       have k7 := H.cell (w.heap.size) 7 (.slice aR c.nr cR) i7_
       have k8 := H.cell (w.heap.size) 8 (.slice aD c.nd cD) i8_
       by_cases hj : j < c.nr
       ·obtain ⟨bR, oR, rfl, hr⟩ := (H.cal (i18_)).1.2 (by omega)
        obtain ⟨q0, q1, q2, q3, q4, q5, q6, q7⟩ := hr j hj
        clear hr
        obtain ⟨x, hx⟩ : ∃ x, Ru.mb (c.R j) = x := ⟨_, rfl⟩
        have Q := Lib.hid (fun v => zQt (c.R j).k (c.R j).m (c.R j).d (c.R j).q (c.R j).o (c.R j).s (c.R j).f (c.R j).t x v hx)
        have HM := Lib.hid hx
        clear hx
        go_wp2_with fail
        (with_reducible refine (Q.out _).mono ?_)
        clear q0 q1 q2 q3 q4 q5 q6 q7 k0 k1 k2 k3 k4 k5 k6 k7 k8 Q
        rintro e w3 ⟨rfl, hb⟩
        replace H := H.below hb
        clear hb
        have k0 := H.cell (w.heap.size) 0 (.bool (c.o 0)) i0_
        have k1 := H.cell (w.heap.size) 1 (.bool (c.o 1)) i1_
        have k2 := H.cell (w.heap.size) 2 (.bool (c.o 2)) i2_
        have k3 := H.cell (w.heap.size) 3 (.bool (c.o 3)) i3_
        have k4 := H.cell (w.heap.size) 4 (.bool (c.o 4)) i4_
        have k5 := H.cell (w.heap.size) 5 (.bool (c.o 5)) i5_
        have k6 := H.cell (w.heap.size) 6 (.bool (c.o 6)) i6_
        have k7 := H.cell (w.heap.size) 7 (.slice (some ⟨bR, oR, none⟩) c.nr cR) i7_
        have k8 := H.cell (w.heap.size) 8 (.slice aD c.nd cD) i8_
        cases x with
        | false =>
         have e : b = false := zB2 HB.out (fun g => by
          have := ru_yes (g.2.2.2.1 j hj)
          rw [HM.out] at this
          cases this)
         subst e
         go_wp2
         go_ret
         exact ⟨rfl, H.old⟩
        | true =>
         go_wp2
         go_roundw
         case rel => exact ⟨j + 1, by omega, by go_num, fun l g => by
          by_cases e : l = j
          ·subst e; exact of_decide_eq_true HM.out
          ·exact HR.out l (by omega), H⟩
         case measure => simp [intOf]; omega
       ·obtain rfl : j = c.nr := by omega
        go_wp2_with fail
        clear k0 k1 k2 k3 k4 k5 k6 k7 k8
        go_loopw [7] (fun i W' => ∃ j : Nat, j ≤ c.nd ∧ i = .int .i64 j ∧ (∀ l, l < j → 1 ≤ c.X l ∧ c.X l ≤ 3652059) ∧ (∀ l, l + 1 < j → c.X l < c.X (l + 1)) ∧ Held w (.cell (w.heap.size) 0 (.bool (c.o 0)) :: .cell (w.heap.size) 1 (.bool (c.o 1)) :: .cell (w.heap.size) 2 (.bool (c.o 2)) :: .cell (w.heap.size) 3 (.bool (c.o 3)) :: .cell (w.heap.size) 4 (.bool (c.o 4)) :: .cell (w.heap.size) 5 (.bool (c.o 5)) :: .cell (w.heap.size) 6 (.bool (c.o 6)) :: .cell (w.heap.size) 7 (.slice aR c.nr cR) :: .cell (w.heap.size) 8 (.slice aD c.nd cD) :: .free (w.heap.size) 0 :: .free (w.heap.size) 1 :: .free (w.heap.size) 2 :: .free (w.heap.size) 3 :: .free (w.heap.size) 4 :: .free (w.heap.size) 5 :: .free (w.heap.size) 6 :: .free (w.heap.size) 7 :: .free (w.heap.size) 8 :: calF c aR cR aD cD :: []) W') (fun i _ => c.nd - (intOf i).toNat)
        case atStart => exact ⟨0, by omega, rfl, fun l g => by omega, fun l g => by omega, H⟩
        case round =>
         clear H
         obtain ⟨j, j1, rfl, hA, hB, H⟩ := hrel
         have HA := Lib.hid hA
         have HC := Lib.hid hB
         clear hA hB
         have k0 := H.cell (w.heap.size) 0 (.bool (c.o 0)) i0_
         have k1 := H.cell (w.heap.size) 1 (.bool (c.o 1)) i1_
         have k2 := H.cell (w.heap.size) 2 (.bool (c.o 2)) i2_
         have k3 := H.cell (w.heap.size) 3 (.bool (c.o 3)) i3_
         have k4 := H.cell (w.heap.size) 4 (.bool (c.o 4)) i4_
         have k5 := H.cell (w.heap.size) 5 (.bool (c.o 5)) i5_
         have k6 := H.cell (w.heap.size) 6 (.bool (c.o 6)) i6_
         have k7 := H.cell (w.heap.size) 7 (.slice aR c.nr cR) i7_
         have k8 := H.cell (w.heap.size) 8 (.slice aD c.nd cD) i8_
         by_cases hj : j < c.nd
         ·obtain ⟨bD, oD, rfl, hd⟩ := (H.cal (i18_)).2.2 (by omega)
          have kd := hd j hj
          obtain ⟨x, hx⟩ : ∃ x, decide (1 ≤ c.X j ∧ c.X j ≤ 3652059) = x := ⟨_, rfl⟩
          have Q := Lib.hid (fun v => zQg (c.X j) x v hx)
          have HM := Lib.hid hx
          clear hx
          go_wp2_with fail
          (with_reducible refine (Q.out _).mono ?_)
          clear Q
          rintro e w3 ⟨rfl, rfl⟩
          cases x with
          | false =>
           have e : b = false := zB2 HB.out (fun g => of_decide_eq_false HM.out (g.2.2.2.2.1 j hj))
           subst e
           go_wp2_with fail
           go_quiet (fail)
           go_wp2
           go_ret
           exact ⟨rfl, H.old.trans ((zAz _).mono H.old.size)⟩
          | true =>
           rcases j with _ | i
           ·
            rw [Nat.add_zero] at kd
            go_wp2_with fail
            go_quiet (fail)
            go_wp2
            go_roundw
            case rel => exact ⟨1, by omega, by go_num, fun l g => by
             by_cases e : l = 0
             ·subst e; exact of_decide_eq_true HM.out
             ·exact HA.out l (by omega), fun l g => by omega, H.drewN _⟩
            case measure => simp [intOf]; omega
           ·
            have ki := hd i (by omega)
            by_cases hl : c.X (i + 1) ≤ c.X i
            ·have t1 : decide (c.X (i + 1) ≤ c.X i) = true := by simpa using hl
             have e : b = false := zB2 HB.out (fun g => by have := g.2.2.2.2.2 i hj; omega)
             subst e
             go_wp2_with fail
             go_quiet (fail)
             go_wp2
             go_ret
             exact ⟨rfl, H.old.trans ((zAz _).mono H.old.size)⟩
            ·have t1 : decide (c.X (i + 1) ≤ c.X i) = false := by simpa using hl
             go_wp2_with fail
             go_quiet (fail)
             go_wp2
             go_roundw
             case rel => exact ⟨i + 2, by omega, by go_num, fun l g => by
              by_cases e : l = i + 1
              ·subst e; exact of_decide_eq_true HM.out
              ·exact HA.out l (by omega), fun l g => by
              by_cases e : l = i
              ·subst e; omega
              ·exact HC.out l (by omega), H.drewN _⟩
             case measure => simp [intOf]; omega
         ·obtain rfl : j = c.nd := by omega
          have e : b = true := HB.out.2 ⟨by simpa using HX.out, by omega, by omega, HR.out, HA.out, HC.out⟩
          subst e
          go_wp2
          go_ret
          exact ⟨rfl, H.old⟩
     ·have e : b = false := zB2 HB.out (fun g => hd g.2.2.1)
      subst e
      go_wp2
      all_goals first | (exfalso; omega) | skip
      all_goals (go_ret; exact ⟨rfl, H.old⟩)
    ·have e : b = false := zB2 HB.out (fun g => hr g.2.1)
     subst e
     go_wp2
     all_goals first | (exfalso; omega) | skip
     all_goals (go_ret; exact ⟨rfl, H.old⟩)
theorem zKg (t : Tm) (c : Ca) (aR : Option Addr) (cR : Nat) (aD : Option Addr) (cD : Nat) (bM : Bool) (k : Int) (b : Bool) (w : World) (hC : CalAt w c aR cR aD cD) (hF : decide (c.nr ≤ 12 ∧ c.nd ≤ 60) = false) (hM : bM = true ↔ c.May) : Calls Tryz.prog 10 #[.agg #[.int .i64 t.mo, .int .i64 t.ra, .int .i64 t.ki, .int .i64 t.co, .int .i64 t.st, .int .i64 t.en, .int .i64 t.ms, .bool t.bk, .bool t.lg, .bool t.eo, .int .i64 t.ro], .agg #[.bool (c.o 0), .bool (c.o 1), .bool (c.o 2), .bool (c.o 3), .bool (c.o 4), .bool (c.o 5), .bool (c.o 6), .slice aR c.nr cR, .slice aD c.nd cD], .int .i64 k] w fun e w' => e = .returned (.bool false) ∧ Below w.heap.size w w' := by
 have H := (Held.start w).add (f := calF c aR cR aD cD) hC
 have RM := Lib.hid (fun v h => zK7 c aR cR aD cD bM v h hM)
 have RF := Lib.hid (fun v => zJg c aR cR aD cD false v hF)
 clear hC hM hF
 go_enter Tryz.func10, Tryz.ntmps10
 go_wp2_with fail
 replace H := H.box_11 (w.heap.size) (.int .i64 t.mo) (.int .i64 t.ra) (.int .i64 t.ki) (.int .i64 t.co) (.int .i64 t.st) (.int .i64 t.en) (.int .i64 t.ms) (.bool t.bk) (.bool t.lg) (.bool t.eo) (.int .i64 t.ro) 23 rfl
 replace H := H.box_9 (w.heap.size + 1) (.bool (c.o 0)) (.bool (c.o 1)) (.bool (c.o 2)) (.bool (c.o 3)) (.bool (c.o 4)) (.bool (c.o 5)) (.bool (c.o 6)) (.slice aR c.nr cR) (.slice aD c.nd cD) 28 (by simp)
 (with_reducible refine (RF.out _).mono ?_)
 rintro e w1 ⟨rfl, hb⟩
 replace H := H.below hb
 clear hb
 obtain ⟨cc0, cc1, cc2, cc3, cc4, cc5, cc6, cc7, cc8⟩ := H.cells9 (w.heap.size + 1)
 have lc := zA0 cc0
 go_wp2_with fail
 clear cc0 cc1 cc2 cc3 cc4 cc5 cc6 cc7 cc8 lc
 (with_reducible refine (RM.out _ (H.cal (c := c) (aR := aR) (cR := cR) (aD := aD) (cD := cD))).mono ?_)
 rintro e w2 ⟨rfl, hb⟩
 replace H := H.below hb
 clear hb
 go_wp2
 go_ret
 exact ⟨rfl, H.old⟩
theorem zKh (t : Tm) (c : Ca) (aR : Option Addr) (cR : Nat) (aD : Option Addr) (cD : Nat) (k : Int) (b : Bool) (w : World) (hC : CalAt w c aR cR aD cD) (hF : decide (c.nr ≤ 12 ∧ c.nd ≤ 60) = true) (hM : false = true ↔ c.May) : Calls Tryz.prog 10 #[.agg #[.int .i64 t.mo, .int .i64 t.ra, .int .i64 t.ki, .int .i64 t.co, .int .i64 t.st, .int .i64 t.en, .int .i64 t.ms, .bool t.bk, .bool t.lg, .bool t.eo, .int .i64 t.ro], .agg #[.bool (c.o 0), .bool (c.o 1), .bool (c.o 2), .bool (c.o 3), .bool (c.o 4), .bool (c.o 5), .bool (c.o 6), .slice aR c.nr cR, .slice aD c.nd cD], .int .i64 k] w fun e w' => e = .returned (.bool false) ∧ Below w.heap.size w w' := by
 have H := (Held.start w).add (f := calF c aR cR aD cD) hC
 have RM := Lib.hid (fun v h => zK7 c aR cR aD cD false v h hM)
 have RF := Lib.hid (fun v => zJg c aR cR aD cD true v hF)
 clear hC hM hF
 go_enter Tryz.func10, Tryz.ntmps10
 go_wp2_with fail
 replace H := H.box_11 (w.heap.size) (.int .i64 t.mo) (.int .i64 t.ra) (.int .i64 t.ki) (.int .i64 t.co) (.int .i64 t.st) (.int .i64 t.en) (.int .i64 t.ms) (.bool t.bk) (.bool t.lg) (.bool t.eo) (.int .i64 t.ro) 23 rfl
 replace H := H.box_9 (w.heap.size + 1) (.bool (c.o 0)) (.bool (c.o 1)) (.bool (c.o 2)) (.bool (c.o 3)) (.bool (c.o 4)) (.bool (c.o 5)) (.bool (c.o 6)) (.slice aR c.nr cR) (.slice aD c.nd cD) 28 (by simp)
 (with_reducible refine (RF.out _).mono ?_)
 rintro e w1 ⟨rfl, hb⟩
 replace H := H.below hb
 clear hb
 obtain ⟨cc0, cc1, cc2, cc3, cc4, cc5, cc6, cc7, cc8⟩ := H.cells9 (w.heap.size + 1)
 have lc := zA0 cc0
 go_wp2_with fail
 clear cc0 cc1 cc2 cc3 cc4 cc5 cc6 cc7 cc8 lc
 (with_reducible refine (RM.out _ (H.cal (c := c) (aR := aR) (cR := cR) (aD := aD) (cD := cD))).mono ?_)
 rintro e w2 ⟨rfl, hb⟩
 replace H := H.below hb
 clear hb
 go_wp2
 go_ret
 exact ⟨rfl, H.old⟩
theorem zKi (t : Tm) (c : Ca) (aR : Option Addr) (cR : Nat) (aD : Option Addr) (cD : Nat) (k : Int) (b : Bool) (w : World) (hC : CalAt w c aR cR aD cD) (hF : decide (c.nr ≤ 12 ∧ c.nd ≤ 60) = true) (hM : true = true ↔ c.May) (hc : t.code = 0) (hk : 0 ≤ k ∧ k ≤ 1000) (hb : decide (t.en - t.st ≤ 31 * k) = b) : Calls Tryz.prog 10 #[.agg #[.int .i64 t.mo, .int .i64 t.ra, .int .i64 t.ki, .int .i64 t.co, .int .i64 t.st, .int .i64 t.en, .int .i64 t.ms, .bool t.bk, .bool t.lg, .bool t.eo, .int .i64 t.ro], .agg #[.bool (c.o 0), .bool (c.o 1), .bool (c.o 2), .bool (c.o 3), .bool (c.o 4), .bool (c.o 5), .bool (c.o 6), .slice aR c.nr cR, .slice aD c.nd cD], .int .i64 k] w fun e w' => e = .returned (.bool b) ∧ Below w.heap.size w w' := by
 have H := (Held.start w).add (f := calF c aR cR aD cD) hC
 have RM := Lib.hid (fun v h => zK7 c aR cR aD cD true v h hM)
 have RF := Lib.hid (fun v => zJg c aR cR aD cD true v hF)
 obtain ⟨hf9, hd9, ho9, -, -⟩ := t.of_zero hc
 have RC := Lib.hid (fun v => zBw t.mo t.ra t.ki t.co t.st t.en t.ms t.bk t.lg t.eo t.ro 0 v hc)
 have RS := Lib.hid (fun v => zQw t.mo t.ra t.ki t.co t.st t.en t.ms t.bk t.lg t.eo t.ro k b v hd9.1 hd9.2 ho9 hk hb)
 clear hc hf9 hd9 ho9 hb hk
 clear hC hM hF
 go_enter Tryz.func10, Tryz.ntmps10
 go_wp2_with fail
 replace H := H.box_11 (w.heap.size) (.int .i64 t.mo) (.int .i64 t.ra) (.int .i64 t.ki) (.int .i64 t.co) (.int .i64 t.st) (.int .i64 t.en) (.int .i64 t.ms) (.bool t.bk) (.bool t.lg) (.bool t.eo) (.int .i64 t.ro) 23 rfl
 replace H := H.box_9 (w.heap.size + 1) (.bool (c.o 0)) (.bool (c.o 1)) (.bool (c.o 2)) (.bool (c.o 3)) (.bool (c.o 4)) (.bool (c.o 5)) (.bool (c.o 6)) (.slice aR c.nr cR) (.slice aD c.nd cD) 28 (by simp)
 (with_reducible refine (RF.out _).mono ?_)
 rintro e w1 ⟨rfl, hb⟩
 replace H := H.below hb
 clear hb
 obtain ⟨cc0, cc1, cc2, cc3, cc4, cc5, cc6, cc7, cc8⟩ := H.cells9 (w.heap.size + 1)
 have lc := zA0 cc0
 go_wp2_with fail
 clear cc0 cc1 cc2 cc3 cc4 cc5 cc6 cc7 cc8 lc
 (with_reducible refine (RM.out _ (H.cal (c := c) (aR := aR) (cR := cR) (aD := aD) (cD := cD))).mono ?_)
 rintro e w2 ⟨rfl, hb⟩
 replace H := H.below hb
 clear hb
 obtain ⟨ct0, ct1, ct2, ct3, ct4, ct5, ct6, ct7, ct8, ct9, ct10⟩ := H.cells11 (w.heap.size)
 have lt := zA0 ct0
 go_wp2_with fail
 clear ct0 ct1 ct2 ct3 ct4 ct5 ct6 ct7 ct8 ct9 ct10 lt
 (with_reducible refine (RC.out _).mono ?_)
 rintro e w3 ⟨rfl, hb⟩
 replace H := H.below hb
 clear hb
 obtain ⟨ct0, ct1, ct2, ct3, ct4, ct5, ct6, ct7, ct8, ct9, ct10⟩ := H.cells11 (w.heap.size)
 have lt := zA0 ct0
 go_wp2_with fail
 clear ct0 ct1 ct2 ct3 ct4 ct5 ct6 ct7 ct8 ct9 ct10 lt
 (with_reducible refine (RS.out _).mono ?_)
 rintro e w4 ⟨rfl, hb⟩
 replace H := H.below hb
 clear hb
 go_wp2
 go_ret
 exact ⟨rfl, H.old⟩
theorem zO0 (P : Prop) : ∃ b : Bool, b = true ↔ P := by
 by_cases h : P
 ·exact ⟨true, fun _ => h, fun _ => rfl⟩
 ·exact ⟨false, fun g => (by cases g), fun g => absurd g h⟩
theorem zCf (t : Tm) (c : Ca) (aR : Option Addr) (cR : Nat) (aD : Option Addr) (cD : Nat) (k : Int) (b : Bool) (w : World) (hC : CalAt w c aR cR aD cD) (hc : t.code = 0) (hk : 0 ≤ k ∧ k ≤ 1000) (hb : b = true ↔ (c.Few ∧ c.May ∧ t.en - t.st ≤ 31 * k)) : Calls Tryz.prog 10 #[.agg #[.int .i64 t.mo, .int .i64 t.ra, .int .i64 t.ki, .int .i64 t.co, .int .i64 t.st, .int .i64 t.en, .int .i64 t.ms, .bool t.bk, .bool t.lg, .bool t.eo, .int .i64 t.ro], .agg #[.bool (c.o 0), .bool (c.o 1), .bool (c.o 2), .bool (c.o 3), .bool (c.o 4), .bool (c.o 5), .bool (c.o 6), .slice aR c.nr cR, .slice aD c.nd cD], .int .i64 k] w fun e w' => e = .returned (.bool b) ∧ Below w.heap.size w w' := by
 obtain ⟨bM, hM⟩ := zO0 c.May
 by_cases hF : c.nr ≤ 12 ∧ c.nd ≤ 60
 ·cases bM
  ·have e : b = false := by
    cases b with
    | false => rfl
    | true => exact absurd (hM.2 (hb.1 rfl).2.1) (by decide)
   subst e
   exact zKh t c aR cR aD cD k false w hC (decide_eq_true hF) hM
  ·refine zKi t c aR cR aD cD k b w hC (decide_eq_true hF) hM hc hk ?_
   rw [Bool.eq_iff_iff, decide_eq_true_eq, hb]
   exact ⟨fun h => ⟨hF, hM.1 rfl, h⟩, fun h => h.2.2⟩
 ·have e : b = false := by
   cases b with
   | false => rfl
   | true => exact absurd (hb.1 rfl).1 hF
  subst e
  exact zKg t c aR cR aD cD bM k false w hC (decide_eq_false hF) hM
theorem zI8 (aO : Option Addr) (n ca : Nat) (P Q : Nat → Int) (bO : Option Addr) (cb : Nat) (P' Q' : Nat → Int) (w : World) (hn : n ≤ 2000) (hA : RatAt w aO P Q n ca) (hB : RatAt w bO P' Q' n cb) (h : ∀ i, i < n → P i = P' i ∧ Q i = Q' i) :
  Calls Tryz.prog 22 #[.slice aO n ca, .slice bO n cb] w fun e w' => e = .returned (.bool true) ∧ Below w.heap.size w w' := by
 have KA := Lib.hid hA
 have KB := Lib.hid hB
 have KH := Lib.hid h
 have ca' := hA.1
 have cb' := hB.1
 clear hA hB h
 go_enter Tryz.func22, Tryz.ntmps22
 go_wp2_with fail
 go_loopw [5] (fun i wr => ∃ k : Nat, k ≤ n ∧ i = .int .i64 (k : Int) ∧ Below w.heap.size w wr) (fun i _ => n - (intOf i).toNat)
 case atStart => exact ⟨0, by omega, rfl, Below.refl _ _⟩
 case round =>
  obtain ⟨k, hk, rfl, hB⟩ := hrel
  have HB := Lib.hid hB
  by_cases hlt : k < n
  ·obtain ⟨b1, o1, rfl, h1⟩ := (KA.out.below hB).2 (by omega)
   obtain ⟨b2, o2, rfl, h2⟩ := (KB.out.below hB).2 (by omega)
   obtain ⟨x0, x1⟩ := h1 k hlt
   obtain ⟨y0, y1⟩ := h2 k hlt
   obtain ⟨e0, e1⟩ := KH.out k hlt
   rw [← e0] at y0
   rw [← e1] at y1
   rw [Nat.mul_comm 2 k] at x0 x1 y0 y1
   clear h1 h2 e0 e1 hB
   go_wp2_with fail
   go_quiet (fail)
   clear x0 x1 y0 y1
   go_wp2
   go_roundw
   case rel => exact ⟨k + 1, by omega, by go_num, zAa HB.out nq⟩
   case measure => simp [intOf]; omega
  ·obtain rfl : k = n := by omega
   clear hB
   go_wp2
   go_ret
   exact ⟨rfl, HB.out⟩
theorem zLq (a0 a1 a2 a3 b0 b1 b2 b3 : Option Addr) (n m r p0 p1 p2 p3 q0 q1 q2 q3 : Nat) (eo : Bool) (en f : Int) (A B G P Q A' B' G' P' Q' : Nat → Int) (w : World) (hn : n ≤ 2000) (hm : m ≤ 2000) (hr : r ≤ 2000)
  (h0 : DaysAt w a0 A n p0) (h1 : DaysAt w a1 B n p1) (h2 : RatAt w a2 P Q m p2) (h3 : DaysAt w a3 G r p3) (k0 : DaysAt w b0 A' n q0) (k1 : DaysAt w b1 B' n q1) (k2 : RatAt w b2 P' Q' m q2) (k3 : DaysAt w b3 G' r q3)
  (e0 : ∀ i, i < n → A i = A' i) (e1 : ∀ i, i < n → B i = B' i) (e2 : ∀ i, i < m → P i = P' i ∧ Q i = Q' i) (e3 : ∀ i, i < r → G i = G' i) :
  Calls Tryz.prog 13 #[.agg #[.slice a0 n p0, .slice a1 n p1, .slice a2 m p2, .bool eo, .int .i64 en, .int .i64 f, .slice a3 r p3], .agg #[.slice b0 n q0, .slice b1 n q1, .slice b2 m q2, .bool eo, .int .i64 en, .int .i64 f, .slice b3 r q3]] w fun e w' => e = .returned (.bool true) ∧ Below w.heap.size w w' := by
 have H := (((((((((Held.start w).add (f := zA4 a0 A n p0) h0).add (f := zA4 a1 B n p1) h1).add (f := ratF a2 P Q m p2) h2).add (f := zA4 a3 G r p3) h3).add (f := zA4 b0 A' n q0) k0).add (f := zA4 b1 B' n q1) k1).add (f := ratF b2 P' Q' m q2) k2).add (f := zA4 b3 G' r q3) k3)
 clear h0 h1 h2 h3 k0 k1 k2 k3
 have E0 := Lib.hid e0
 have E1 := Lib.hid e1
 have E2 := Lib.hid e2
 have E3 := Lib.hid e3
 clear e0 e1 e2 e3
 go_enter Tryz.func13, Tryz.ntmps13
 go_wp2_with fail
 replace H := H.box_7 (w.heap.size) (.slice a0 n p0) (.slice a1 n p1) (.slice a2 m p2) (.bool eo) (.int .i64 en) (.int .i64 f) (.slice a3 r p3) 35 rfl
 replace H := H.box_7 (w.heap.size + 1) (.slice b0 n q0) (.slice b1 n q1) (.slice b2 m q2) (.bool eo) (.int .i64 en) (.int .i64 f) (.slice b3 r q3) 35 (by simp)
 obtain ⟨cx0, cx1, cx2, cx3, cx4, cx5, cx6⟩ := H.cells7 (w.heap.size)
 have lx := zA0 cx0
 obtain ⟨cy0, cy1, cy2, cy3, cy4, cy5, cy6⟩ := H.cells7 (w.heap.size + 1)
 have ly := zA0 cy0
 go_wp2_with fail
 clear cx0 cx1 cx2 cx3 cx4 cx5 cx6 lx cy0 cy1 cy2 cy3 cy4 cy5 cy6 ly
 (with_reducible refine (zCe a0 n p0 A b0 q0 A' _ hn (H.days (ao := a0) (X := A) (n := n) (cap := p0)) (H.days (ao := b0) (X := A') (n := n) (cap := q0)) E0.out).mono ?_)
 rintro e w1 ⟨rfl, hb⟩
 replace H := H.below hb
 clear hb
 obtain ⟨cx0, cx1, cx2, cx3, cx4, cx5, cx6⟩ := H.cells7 (w.heap.size)
 have lx := zA0 cx0
 obtain ⟨cy0, cy1, cy2, cy3, cy4, cy5, cy6⟩ := H.cells7 (w.heap.size + 1)
 have ly := zA0 cy0
 go_wp2_with fail
 clear cx0 cx1 cx2 cx3 cx4 cx5 cx6 lx cy0 cy1 cy2 cy3 cy4 cy5 cy6 ly
 (with_reducible refine (zCe a1 n p1 B b1 q1 B' _ hn (H.days (ao := a1) (X := B) (n := n) (cap := p1)) (H.days (ao := b1) (X := B') (n := n) (cap := q1)) E1.out).mono ?_)
 rintro e w2 ⟨rfl, hb⟩
 replace H := H.below hb
 clear hb
 obtain ⟨cx0, cx1, cx2, cx3, cx4, cx5, cx6⟩ := H.cells7 (w.heap.size)
 have lx := zA0 cx0
 obtain ⟨cy0, cy1, cy2, cy3, cy4, cy5, cy6⟩ := H.cells7 (w.heap.size + 1)
 have ly := zA0 cy0
 go_wp2_with fail
 clear cx0 cx1 cx2 cx3 cx4 cx5 cx6 lx cy0 cy1 cy2 cy3 cy4 cy5 cy6 ly
 (with_reducible refine (zCe a3 r p3 G b3 q3 G' _ hr (H.days (ao := a3) (X := G) (n := r) (cap := p3)) (H.days (ao := b3) (X := G') (n := r) (cap := q3)) E3.out).mono ?_)
 rintro e w3 ⟨rfl, hb⟩
 replace H := H.below hb
 clear hb
 obtain ⟨cx0, cx1, cx2, cx3, cx4, cx5, cx6⟩ := H.cells7 (w.heap.size)
 have lx := zA0 cx0
 obtain ⟨cy0, cy1, cy2, cy3, cy4, cy5, cy6⟩ := H.cells7 (w.heap.size + 1)
 have ly := zA0 cy0
 go_wp2_with fail
 clear cx0 cx1 cx2 cx3 cx4 cx5 cx6 lx cy0 cy1 cy2 cy3 cy4 cy5 cy6 ly
 (with_reducible refine (zI8 a2 m p2 P Q b2 q2 P' Q' _ hm (H.rat (ao := a2) (P := P) (Q := Q) (n := m) (cap := p2)) (H.rat (ao := b2) (P := P') (Q := Q') (n := m) (cap := q2)) E2.out).mono ?_)
 rintro e w4 ⟨rfl, hb⟩
 replace H := H.below hb
 clear hb
 obtain ⟨cx0, cx1, cx2, cx3, cx4, cx5, cx6⟩ := H.cells7 (w.heap.size)
 have lx := zA0 cx0
 obtain ⟨cy0, cy1, cy2, cy3, cy4, cy5, cy6⟩ := H.cells7 (w.heap.size + 1)
 have ly := zA0 cy0
 go_wp2
 clear cx0 cx1 cx2 cx3 cx4 cx5 cx6 lx cy0 cy1 cy2 cy3 cy4 cy5 cy6 ly
 go_ret
 exact ⟨rfl, H.old⟩
end Go.Proofs.YtpfgdfpaoldhcaaGreatDoor
