/- Several texts in one: RuRef, RuRefD, CaMem, CaRef, CaBox, RuShown, EaShown. -/
import Derived.Test.YtpfgdfpaoldhcaaGreatDoorSrAC
set_option maxHeartbeats 8000000
set_option maxRecDepth 100000
set_option linter.unusedVariables false
set_option linter.unusedSimpArgs false
namespace Go.Proofs.YtpfgdfpaoldhcaaGreatDoor
open Go.RowKit
theorem Held.oct {w W : World} {fs : List Fact} (h : Held w fs W) (B : Nat) (x0 x1 x2 x3 x4 x5 x6 x7 : Value) (t : TypeId) (hB : W.heap.size = B) :
  Held w (.cell B 0 x0 :: .cell B 1 x1 :: .cell B 2 x2 :: .cell B 3 x3 :: .cell B 4 x4 :: .cell B 5 x5 :: .cell B 6 x6 :: .cell B 7 x7 :: .free B 0 :: .free B 1 :: .free B 2 :: .free B 3 :: .free B 4 :: .free B 5 :: .free B 6 :: .free B 7 :: fs) (W.alloc (.cells #[x0, x1, x2, x3, x4, x5, x6, x7] t)) := by
 subst hB
 exact ((((((((((((((((h.alloc _).add (f := .free W.heap.size 7) ⟨zs, by simp [go_sem]⟩).add (f := .free W.heap.size 6) ⟨zs, by simp [go_sem]⟩).add (f := .free W.heap.size 5) ⟨zs, by simp [go_sem]⟩).add (f := .free W.heap.size 4) ⟨zs, by simp [go_sem]⟩).add (f := .free W.heap.size 3) ⟨zs, by simp [go_sem]⟩).add (f := .free W.heap.size 2) ⟨zs, by simp [go_sem]⟩).add (f := .free W.heap.size 1) ⟨zs, by simp [go_sem]⟩).add (f := .free W.heap.size 0) ⟨zs, by simp [go_sem]⟩).add (f := .cell W.heap.size 7 x7) zf).add (f := .cell W.heap.size 6 x6) zf).add (f := .cell W.heap.size 5 x5) zf).add (f := .cell W.heap.size 4 x4) zf).add (f := .cell W.heap.size 3 x3) zf).add (f := .cell W.heap.size 2 x2) zf).add (f := .cell W.heap.size 1 x1) zf).add (f := .cell W.heap.size 0 x0) zf
theorem zqgkc {P : Prop} (h : P := by
 go_wp2
 all_goals (go_ret; refine ⟨retB ?_, rfl⟩; rw [Bool.eq_iff_iff]; (try simp only [ge_iff_le, Bool.and_eq_true, decide_eq_true_eq, Bool.false_eq_true, false_iff, true_iff]); omega)) : P := h
theorem zT1 (n lo hi : Int) (w : World) : Calls Tryz.prog 76 #[n, lo, hi] w fun e w' => e = .returned (.bool (decide (lo ≤ n ∧ n ≤ hi))) ∧ w = w' := by
 go_enter Tryz.func76, Tryz.ntmps76
 exact zqgkc
theorem zT2 (n lo hi : Int) (b : Bool) (w : World) (h : decide (lo ≤ n ∧ n ≤ hi) = b) : Calls Tryz.prog 76 #[n, lo, hi] w fun e w' => e = .returned b ∧ Below w w w' := by
 subst h; exact Calls.same (zT1 n lo hi w)
theorem rin_eq (n lo hi : Int) (b : Bool) (w : World) (h : decide (lo ≤ n ∧ n ≤ hi) = b) : Calls Tryz.prog 76 #[n, lo, hi] w fun e w' => e = .returned b ∧ w = w' := by
 subst h; exact zT1 n lo hi w
theorem rlen_eq (y m l : Int) (w : World) (h : ln y m = l) : Calls Tryz.prog 75 #[y, m] w fun e w' => e = .returned l ∧ w = w' := by
 subst h; exact zBu y m w
theorem rumay_a (k m d q o s f t : Int) (b : Bool) (w : World) (h : ¬ ((0 ≤ k ∧ k ≤ 3) ∧ (0 ≤ s ∧ s ≤ 2) ∧ (1 ≤ f ∧ f ≤ t ∧ t ≤ 9999))) : Calls Tryz.prog 52 #[.agg #[k, m, d, q, o, s, f, t]] w fun e w' => e = .returned false ∧ Below w w w' := by
 have D : ∀ w : World, Below w w (w.alloc (.cells #[k, m, d, q, o, s, f, t] 76)) := fun w => (Below.refl _ _).alloc (Nat.le_refl _) _
 go_enter Tryz.func52, Tryz.ntmps52
 exact zqu73
theorem rumay_b (k m d q o s f t : Int) (b : Bool) (w : World) (h : (0 ≤ k ∧ k ≤ 3) ∧ (0 ≤ s ∧ s ≤ 2) ∧ (1 ≤ f ∧ f ≤ t ∧ t ≤ 9999)) (hk : k = 3) (hb : decide (-100 ≤ o ∧ o ≤ 250) = b) : Calls Tryz.prog 52 #[.agg #[k, m, d, q, o, s, f, t]] w fun e w' => e = .returned b ∧ Below w w w' := by
 have H := Held.start w
 have C := zh (fun v => zT2 o (-100) 250 b v hb)
 obtain ⟨⟨a1, a2⟩, ⟨a3, a4⟩, a5, a6, a7⟩ := h
 subst hk
 clear hb
 go_enter Tryz.func52, Tryz.ntmps52
 replace H := H.oct w (3:Int) m d q o s f t 76 rfl
 go_wp2_with fail
 with_reducible refine (C.out _).mono ?_
 rintro e w1 ⟨rfl, hb1⟩
 replace H := H.below hb1
 clear hb1
 go_wp2
 go_ret
 exact ⟨rfl, H.old⟩
theorem rumay_c (k m d q o s f t : Int) (b : Bool) (w : World) (h : (0 ≤ k ∧ k ≤ 3) ∧ (0 ≤ s ∧ s ≤ 2) ∧ (1 ≤ f ∧ f ≤ t ∧ t ≤ 9999)) (hk : k ≠ 3) (hm : ¬ (1 ≤ m ∧ m ≤ 12)) : Calls Tryz.prog 52 #[.agg #[k, m, d, q, o, s, f, t]] w fun e w' => e = .returned false ∧ Below w w w' := by
 have D : ∀ w : World, Below w w (w.alloc (.cells #[k, m, d, q, o, s, f, t] 76)) := fun w => (Below.refl _ _).alloc (Nat.le_refl _) _
 have hk2 : (k == 3) = false := by simpa using hk
 go_enter Tryz.func52, Tryz.ntmps52
 exact zqu73
theorem rumay_d (k m d q o s f t : Int) (b : Bool) (w : World) (h : (0 ≤ k ∧ k ≤ 3) ∧ (0 ≤ s ∧ s ≤ 2) ∧ (1 ≤ f ∧ f ≤ t ∧ t ≤ 9999)) (hk : k = 0) (hm : 1 ≤ m ∧ m ≤ 12) (hb : decide (1 ≤ d ∧ d ≤ ln 2000 m) = b) : Calls Tryz.prog 52 #[.agg #[k, m, d, q, o, s, f, t]] w fun e w' => e = .returned b ∧ Below w w w' := by
 have H := Held.start w
 obtain ⟨l, HB⟩ : ∃ l, Hid (ln 2000 m = l) := ⟨_, zh rfl⟩
 rw [HB.out] at hb
 have C1 := zh (fun v => rlen_eq 2000 m l v HB.out)
 have C2 := zh (fun v => rin_eq d 1 l b v hb)
 obtain ⟨⟨a1, a2⟩, ⟨a3, a4⟩, a5, a6, a7⟩ := h
 obtain ⟨m1, m2⟩ := hm
 subst hk
 clear hb
 go_enter Tryz.func52, Tryz.ntmps52
 replace H := H.oct w (0:Int) m d q o s f t 76 rfl
 obtain ⟨c0, c1, c2, c3, c4, c5, c6, c7⟩ := H.cells8 w
 have lc := H.lt w 0 (0:Int) i0_
 have HK := H.old
 clear H
 go_wp2_with fail
 go_quiet (first | (go_at_call 75; with_reducible exact zAt (C1.out _)) | (go_at_call 76; with_reducible exact zAt (C2.out _)))
 go_wp2
 go_ret
 exact ⟨rfl, zA7 HK _⟩
theorem rumay_e (k m d q o s f t : Int) (b : Bool) (w : World) (h : (0 ≤ k ∧ k ≤ 3) ∧ (0 ≤ s ∧ s ≤ 2) ∧ (1 ≤ f ∧ f ≤ t ∧ t ≤ 9999)) (hk : k = 1 ∨ k = 2) (hm : 1 ≤ m ∧ m ≤ 12) (d2 : Bool) (hd : decide (0 ≤ d ∧ d ≤ 6) = d2) (q2 : Bool) (hq : decide (1 ≤ q ∧ q ≤ 5) = q2) : Calls Tryz.prog 52 #[.agg #[k, m, d, q, o, s, f, t]] w fun e w' => e = .returned (.bool (d2 && (k == 2 || q2))) ∧ Below w w w' := by
 have H := Held.start w
 have C1 := zh (fun v => zT2 d 0 6 d2 v hd)
 have C2 := zh (fun v => zT2 q 1 5 q2 v hq)
 obtain ⟨⟨a1, a2⟩, ⟨a3, a4⟩, a5, a6, a7⟩ := h
 obtain ⟨m1, m2⟩ := hm
 clear hd hq
 go_enter Tryz.func52, Tryz.ntmps52
 replace H := H.oct w k m d q o s f t 76 rfl
 go_wp2_with fail
 with_reducible refine (C1.out _).mono ?_
 rintro e w1 ⟨rfl, hb1⟩
 replace H := H.below hb1
 clear hb1
 obtain ⟨c0, c1, c2, c3, c4, c5, c6, c7⟩ := H.cells8 w
 cases d2
 ·go_wp2
  go_ret
  exact ⟨rfl, H.old⟩
 ·rcases hk with rfl | rfl
  ·go_wp2_with fail
   with_reducible refine (C2.out _).mono ?_
   rintro e w2 ⟨rfl, hb1⟩
   replace H := H.below hb1
   clear hb1
   go_wp2
   go_ret
   exact ⟨rfl, H.old⟩
  ·go_wp2
   go_ret
   exact ⟨rfl, H.old⟩
theorem zTf (k m d q o s f t : Int) (b : Bool) (w : World) (hb : Ru.mb ⟨k, m, d, q, o, s, f, t⟩ = b) : Calls Tryz.prog 52 #[.agg #[k, m, d, q, o, s, f, t]] w fun e w' => e = .returned b ∧ Below w w w' := by
 by_cases h : (0 ≤ k ∧ k ≤ 3) ∧ (0 ≤ s ∧ s ≤ 2) ∧ (1 ≤ f ∧ f ≤ t ∧ t ≤ 9999)
 ·by_cases h3 : k = 3
  ·have e : decide (-100 ≤ o ∧ o ≤ 250) = b := by
    rw [← hb]; unfold Ru.mb; rw [decide_eq_decide]
    refine ⟨fun a => ⟨h.1, h.2.1, h.2.2, fun _ => a, fun c => absurd h3 c, fun c => ?_, fun c => ?_, fun c => ?_⟩, fun a => a.2.2.2.1 h3⟩ <;> (simp only at c; omega)
   exact rumay_b _ _ _ _ _ _ _ _ _ w h h3 e
  ·by_cases hm : 1 ≤ m ∧ m ≤ 12
   ·by_cases h0 : k = 0
    ·have e : decide (1 ≤ d ∧ d ≤ ln 2000 m) = b := by
      rw [← hb]; unfold Ru.mb; rw [decide_eq_decide]
      refine ⟨fun a => ⟨h.1, h.2.1, h.2.2, fun c => absurd c h3, fun _ => hm, fun _ => a, fun c => ?_, fun c => ?_⟩, fun a => a.2.2.2.2.2.1 h0⟩ <;> (simp only at c; omega)
     exact rumay_d _ _ _ _ _ _ _ _ _ w h h0 hm e
    ·have h12 : k = 1 ∨ k = 2 := zo
     have e : (decide (0 ≤ d ∧ d ≤ 6) && (k == 2 || decide (1 ≤ q ∧ q ≤ 5))) = b := by
      rw [← hb, Bool.eq_iff_iff]
      unfold Ru.mb
      simp only [Bool.and_eq_true, Bool.or_eq_true, decide_eq_true_eq, beq_iff_eq]
      refine ⟨fun a => ⟨h.1, h.2.1, h.2.2, fun c => absurd c h3, fun _ => hm, fun c => absurd c h0, fun _ => a.1, fun c => ?_⟩, fun a => ⟨a.2.2.2.2.2.2.1 h12, ?_⟩⟩
      ·simp only at c; rcases a.2 with x | x
       ·omega
       ·exact x
      ·rcases h12 with x | x
       ·exact Or.inr (a.2.2.2.2.2.2.2 x)
       ·exact Or.inl x
     rw [← e]
     exact rumay_e _ _ _ _ _ _ _ _ true w h h12 hm _ rfl _ rfl
   ·have e : Ru.mb ⟨k, m, d, q, o, s, f, t⟩ = false := ru_no (fun a => hm (a.2.2.2.2.1 h3))
    rw [← hb, e]
    exact rumay_c _ _ _ _ _ _ _ _ true w h h3 hm
 ·have e : Ru.mb ⟨k, m, d, q, o, s, f, t⟩ = false := ru_no (fun a => h ⟨a.1, a.2.1, a.2.2.1⟩)
  rw [← hb, e]
  exact rumay_a _ _ _ _ _ _ _ _ true w h
theorem zNh {r : Ru} {n : Int} (h : r.Is n) : 1 ≤ n ∧ n ≤ 3652059 := by
 obtain ⟨h0, y, hy⟩ := h
 have := inn_bd (r := r) y
 omega
theorem Held.box_9 {w W : World} {fs : List Fact} (h : Held w fs W) (B : Nat) (x0 x1 x2 x3 x4 x5 x6 x7 x8 : Value) (t : TypeId) (hB : W.heap.size = B) :
  Held w (.cell B 0 x0 :: .cell B 1 x1 :: .cell B 2 x2 :: .cell B 3 x3 :: .cell B 4 x4 :: .cell B 5 x5 :: .cell B 6 x6 :: .cell B 7 x7 :: .cell B 8 x8 :: .free B 0 :: .free B 1 :: .free B 2 :: .free B 3 :: .free B 4 :: .free B 5 :: .free B 6 :: .free B 7 :: .free B 8 :: fs) (W.alloc (.cells #[x0, x1, x2, x3, x4, x5, x6, x7, x8] t)) := by
 subst hB
 exact ((((((((((((((((((h.alloc _).add (f := .free W.heap.size 8) ⟨zs, by simp [go_sem]⟩).add (f := .free W.heap.size 7) ⟨zs, by simp [go_sem]⟩).add (f := .free W.heap.size 6) ⟨zs, by simp [go_sem]⟩).add (f := .free W.heap.size 5) ⟨zs, by simp [go_sem]⟩).add (f := .free W.heap.size 4) ⟨zs, by simp [go_sem]⟩).add (f := .free W.heap.size 3) ⟨zs, by simp [go_sem]⟩).add (f := .free W.heap.size 2) ⟨zs, by simp [go_sem]⟩).add (f := .free W.heap.size 1) ⟨zs, by simp [go_sem]⟩).add (f := .free W.heap.size 0) ⟨zs, by simp [go_sem]⟩).add (f := .cell W.heap.size 8 x8) zf).add (f := .cell W.heap.size 7 x7) zf).add (f := .cell W.heap.size 6 x6) zf).add (f := .cell W.heap.size 5 x5) zf).add (f := .cell W.heap.size 4 x4) zf).add (f := .cell W.heap.size 3 x3) zf).add (f := .cell W.heap.size 2 x2) zf).add (f := .cell W.heap.size 1 x1) zf).add (f := .cell W.heap.size 0 x0) zf
def DCells (W : World) (b off : Nat) (X : Nat → Int) (n : Nat) : Prop := ∀ j, j < n → W.cell? ⟨b, off + j, none⟩ = some (.int .i64 (X j))
theorem DCells.below {W W' : World} {b off n : Nat} {X : Nat → Int} (h : DCells W b off X n) (hb : Below W W W') : DCells W' b off X n := fun j hj => keep hb (zA0 (h j hj)) (h j hj)
def DaysAt (W : World) (ao : Option Addr) (X : Nat → Int) (n cap : Nat) : Prop := n ≤ cap ∧ (0 < n → ∃ b off, ao = some ⟨b, off, none⟩ ∧ DCells W b off X n)
theorem DaysAt.below {W W' : World} {ao : Option Addr} {n cap : Nat} {X : Nat → Int} (h : DaysAt W ao X n cap) (hb : Below W W W') : DaysAt W' ao X n cap :=
 ⟨h.1, fun hn => by obtain ⟨b, off, e, hc⟩ := h.2 hn; exact ⟨b, off, e, hc.below hb⟩⟩
structure RCell (W : World) (b off : Nat) (r : Ru) : Prop where
 c0 : W.cell? ⟨b, off, none⟩ = some (.int .i64 r.k)
 c1 : W.cell? ⟨b, off + 1, none⟩ = some (.int .i64 r.m)
 c2 : W.cell? ⟨b, off + 2, none⟩ = some (.int .i64 r.d)
 c3 : W.cell? ⟨b, off + 3, none⟩ = some (.int .i64 r.q)
 c4 : W.cell? ⟨b, off + 4, none⟩ = some (.int .i64 r.o)
 c5 : W.cell? ⟨b, off + 5, none⟩ = some (.int .i64 r.s)
 c6 : W.cell? ⟨b, off + 6, none⟩ = some (.int .i64 r.f)
 c7 : W.cell? ⟨b, off + 7, none⟩ = some (.int .i64 r.t)
theorem RCell.below {W W' : World} {b off : Nat} {r : Ru} (h : RCell W b off r) (hb : Below W W W') : RCell W' b off r :=
 ⟨keep hb (zA0 h.c0) h.c0, keep hb (zA0 h.c1) h.c1, keep hb (zA0 h.c2) h.c2, keep hb (zA0 h.c3) h.c3, keep hb (zA0 h.c4) h.c4, keep hb (zA0 h.c5) h.c5, keep hb (zA0 h.c6) h.c6, keep hb (zA0 h.c7) h.c7⟩
def RCells (W : World) (b off : Nat) (R : Nat → Ru) (n : Nat) : Prop := ∀ j, j < n → RCell W b (off + j * 8) (R j)
theorem RCells.below {W W' : World} {b off n : Nat} {R : Nat → Ru} (h : RCells W b off R n) (hb : Below W W W') : RCells W' b off R n := fun j hj => (h j hj).below hb
def RulesAt (W : World) (ao : Option Addr) (R : Nat → Ru) (n cap : Nat) : Prop := n ≤ cap ∧ (0 < n → ∃ b off, ao = some ⟨b, off, none⟩ ∧ RCells W b off R n)
theorem RulesAt.below {W W' : World} {ao : Option Addr} {n cap : Nat} {R : Nat → Ru} (h : RulesAt W ao R n cap) (hb : Below W W W') : RulesAt W' ao R n cap :=
 ⟨h.1, fun hn => by obtain ⟨b, off, e, hc⟩ := h.2 hn; exact ⟨b, off, e, hc.below hb⟩⟩
def CalAt (W : World) (c : Ca) (aR : Option Addr) (cR : Nat) (aD : Option Addr) (cD : Nat) : Prop := RulesAt W aR c.R c.nr cR ∧ DaysAt W aD c.X c.nd cD
theorem CalAt.below {W W' : World} {c : Ca} {aR : Option Addr} {cR : Nat} {aD : Option Addr} {cD : Nat} (h : CalAt W c aR cR aD cD) (hb : Below W W W') : CalAt W' c aR cR aD cD := ⟨h.1.below hb, h.2.below hb⟩
def calF (c : Ca) (aR : Option Addr) (cR : Nat) (aD : Option Addr) (cD : Nat) : Fact := .that (fun W => CalAt W c aR cR aD cD) (fun _ _ hb h => h.below hb)
theorem Held.cal {w W : World} {fs : List Fact} {c : Ca} {aR : Option Addr} {cR : Nat} {aD : Option Addr} {cD : Nat} (h : Held w fs W) (hm : calF c aR cR aD cD ∈ fs := by exact zm) : CalAt W c aR cR aD cD := h.all _ hm
theorem zRz {W : World} {B v : Nat} {o : Nat → Bool} (v7 : v < 7) (h0 : W.cell? ⟨B, 0, none⟩ = some (.bool (o 0))) (h1 : W.cell? ⟨B, 1, none⟩ = some (.bool (o 1))) (h2 : W.cell? ⟨B, 2, none⟩ = some (.bool (o 2))) (h3 : W.cell? ⟨B, 3, none⟩ = some (.bool (o 3))) (h4 : W.cell? ⟨B, 4, none⟩ = some (.bool (o 4))) (h5 : W.cell? ⟨B, 5, none⟩ = some (.bool (o 5))) (h6 : W.cell? ⟨B, 6, none⟩ = some (.bool (o 6))) : W.cell? ⟨B, v, none⟩ = some (.bool (o v)) := by
 match v, v7 with
 | 0, _ => exact h0
 | 1, _ => exact h1
 | 2, _ => exact h2
 | 3, _ => exact h3
 | 4, _ => exact h4
 | 5, _ => exact h5
 | 6, _ => exact h6
theorem zA9 (b off j : Nat) : (⟨b, off, none⟩ : Addr).add j = ⟨b, off + j, none⟩ := by
 unfold Addr.add
 split
 ·next h => subst h; rfl
 ·rfl
theorem zq8dv {P : Prop} (h : P := by
 go_wp2
 all_goals (go_ret; refine ⟨retB ?_, rfl⟩; rw [← HB.out]; rw [Bool.eq_iff_iff]; (try simp only [ge_iff_le, Bool.and_eq_true, decide_eq_true_eq, Bool.false_eq_true, false_iff, true_iff]); omega)) : P := h
theorem zAv (n : Int) (b : Bool) (w : World) (h : decide (1 ≤ n ∧ n ≤ 3652059) = b) : Calls Tryz.prog 31 #[n] w fun e w' => e = .returned b ∧ w = w' := by
 have HB := zh h
 clear h
 go_enter Tryz.func31, Tryz.ntmps31
 exact zq8dv
theorem zKy (c : Ca) (aR : Option Addr) (cR : Nat) (aD : Option Addr) (cD : Nat) (b : Bool) (w : World) (h : decide (c.nr ≤ 12 ∧ c.nd ≤ 60) = b) : Calls Tryz.prog 23 #[.agg #[(c.o 0), (c.o 1), (c.o 2), (c.o 3), (c.o 4), (c.o 5), (c.o 6), .slice aR c.nr cR, .slice aD c.nd cD]] w fun e w' => e = .returned b ∧ Below w w w' := by
 have H := Held.start w
 have HB := zh h
 clear h
 go_enter Tryz.func23, Tryz.ntmps23
 replace H := H.box_9 w (c.o 0) (c.o 1) (c.o 2) (c.o 3) (c.o 4) (c.o 5) (c.o 6) (.slice aR c.nr cR) (.slice aD c.nd cD) 28 rfl
 go_wp2_with fail
 all_goals (go_ret; refine ⟨retB ?_, H.old⟩; rw [← HB.out, Bool.eq_iff_iff]; (try simp only [decide_eq_true_eq, Bool.false_eq_true, false_iff, true_iff]); omega)
theorem Held.box_7 {w W : World} {fs : List Fact} (h : Held w fs W) (B : Nat) (x0 x1 x2 x3 x4 x5 x6 : Value) (t : TypeId) (hB : W.heap.size = B) :
  Held w (.cell B 0 x0 :: .cell B 1 x1 :: .cell B 2 x2 :: .cell B 3 x3 :: .cell B 4 x4 :: .cell B 5 x5 :: .cell B 6 x6 :: .free B 0 :: .free B 1 :: .free B 2 :: .free B 3 :: .free B 4 :: .free B 5 :: .free B 6 :: fs) (W.alloc (.cells #[x0, x1, x2, x3, x4, x5, x6] t)) := by
 subst hB
 exact ((((((((((((((h.alloc _).add (f := .free W.heap.size 6) ⟨zs, by simp [go_sem]⟩).add (f := .free W.heap.size 5) ⟨zs, by simp [go_sem]⟩).add (f := .free W.heap.size 4) ⟨zs, by simp [go_sem]⟩).add (f := .free W.heap.size 3) ⟨zs, by simp [go_sem]⟩).add (f := .free W.heap.size 2) ⟨zs, by simp [go_sem]⟩).add (f := .free W.heap.size 1) ⟨zs, by simp [go_sem]⟩).add (f := .free W.heap.size 0) ⟨zs, by simp [go_sem]⟩).add (f := .cell W.heap.size 6 x6) zf).add (f := .cell W.heap.size 5 x5) zf).add (f := .cell W.heap.size 4 x4) zf).add (f := .cell W.heap.size 3 x3) zf).add (f := .cell W.heap.size 2 x2) zf).add (f := .cell W.heap.size 1 x1) zf).add (f := .cell W.heap.size 0 x0) zf
def FactsU (w : World) : Prop := Lens w
theorem FactsU.below {W W' : World} (h : FactsU W) (hb : Below W W W') : FactsU W' := Lens.below h hb
def FactsE (w : World) : Prop := Lens w
theorem FactsE.below {W W' : World} (h : FactsE W) (hb : Below W W W') : FactsE W' := Lens.below h hb
end Go.Proofs.YtpfgdfpaoldhcaaGreatDoor
