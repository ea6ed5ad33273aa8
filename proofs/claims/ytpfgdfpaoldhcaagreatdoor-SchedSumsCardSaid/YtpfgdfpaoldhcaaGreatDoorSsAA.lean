/- Several texts in one: TyNum, RefRight, GTy, GAc, GIc, CoNum, CaUn, DaSeq. -/
import Derived.Test.YtpfgdfpaoldhcaaGreatDoorSrAO
set_option maxHeartbeats 8000000
set_option maxRecDepth 100000
set_option linter.unusedVariables false
set_option linter.unusedSimpArgs false
namespace Go.Proofs.YtpfgdfpaoldhcaaGreatDoor
theorem part_in {X : Int → Int → Int → Int → Int → Int → Int} {a b p q : Int} (y1 m1 d1 y2 m2 d2 : Int) (h1 : may y1 m1 d1) (ha : nb y1 m1 d1 = a) (h2 : may y2 m2 d2) (hb : nb y2 m2 d2 = b) (hab : a ≤ b)
  (x : Int) (hx : X y1 m1 d1 y2 m2 d2 = x) (hp : rN x 360 = p) (hq : rD x 360 = q) : zBd X a b p q 0 :=
 Or.inl ⟨y1, m1, d1, y2, m2, d2, h1, ha, h2, hb, hab, by rw [hx, hp], by rw [hx, hq], rfl⟩
end Go.Proofs.YtpfgdfpaoldhcaaGreatDoor
namespace Go.Proofs.YtpfgdfpaoldhcaaGreatDoor
open Go.RowKit
theorem one_mod (g : Int) (h : 0 < g) : ((1 : Int) % g == 0) = decide (g = 1) := by
 by_cases e : g = 1
 ·subst e; rfl
 ·rw [Int.emod_eq_of_lt zo zo, decide_eq_false e]; rfl
theorem divides_yes (g : Int) (w : World) (h : 0 < g) (h1 : g ≤ 9223372036854775807) :
  Calls Tryz.prog 40 #[g, (1:Int)] w fun e w' => e = .returned (.bool (decide (g = 1))) ∧ w = w' := by
 have t1 : (g == 0) = false := beq_eq_false_iff_ne.2 zo
 have E := zh (one_mod g h)
 have m0 : 0 ≤ (1 : Int) % g := Int.emod_nonneg _ zo
 have m1 : (1 : Int) % g < g := Int.emod_lt_of_pos _ h
 go_enter Tryz.func40, Tryz.ntmps40
 go_wp2
 go_ret
 exact ⟨by rw [← E.out]; rfl, rfl⟩
theorem rright_in (n d : Int) (w : World) (a : 0 ≤ n) (b : n ≤ 4611686018427387904) (c : 1 ≤ d) (e : d ≤ 4611686018427387904) :
  Calls Tryz.prog 17 #[.agg #[n, d]] w fun e w' => e = .returned (.bool (decide (gi n d = 1))) ∧ Below w w w' := by
 have t1 : decide (n < 0) = false := zx
 have t2 : decide (4611686018427387904 < n) = false := zx
 have t3 : decide (d < 1) = false := zx
 have t4 : decide (4611686018427387904 < d) = false := zx
 have gp := zFn n d (Or.inr zo)
 obtain ⟨g, HG⟩ : ∃ g, Hid (gi n d = g) := ⟨_, zh rfl⟩
 rw [HG.out] at gp ⊢
 go_enter Tryz.func17, Tryz.ntmps17
 go_wp2
 go_loop [3, 4, 5] (fun x y z => ∃ p q : Int, x = .int .i64 p ∧ y = .int .i64 q ∧ 0 ≤ p ∧ p ≤ 4611686018427387904 ∧ 0 ≤ q ∧ q ≤ 4611686018427387904 ∧ gi p q = g) (fun _ y _ => (intOf y).toNat)
 case atStart => exact ⟨n, d, rfl, rfl, a, b, zo, e, HG.out⟩
 case round =>
  obtain ⟨p, q, rfl, rfl, p0, p1, q0, q1, hg⟩ := hrel
  have HH := zh hg
  clear hg
  by_cases hz : q = 0
  ·subst hz
   have hp : p = g := by rw [← HH.out, zKz p p0]
   have hp0 : 0 < p := zo
   have HP := zh hp
   clear hp
   go_wp2_with fail
   with_reducible refine (divides_yes p _ hp0 zo).mono ?_
   rw [HP.out]
   rintro e w' ⟨rfl, rfl⟩
   go_wp2
   go_ret
   exact ⟨rfl, (Below.refl _ _).alloc (Nat.le_refl _) _⟩
  ·have t5 : (q == 0) = false := beq_eq_false_iff_ne.2 hz
   have t6 : decide (0 < q) = true := zx
   have k1 : 0 ≤ p % q := Int.emod_nonneg _ hz
   have k2 : p % q < q := Int.emod_lt_of_pos _ zo
   have k3 : p % q ≤ 4611686018427387904 := zo
   have k4 : Hid (gi q (p % q) = g) := zh ((zIf p q p0 q0).trans HH.out)
   go_wp2
   go_round
   case rel => exact ⟨q, p % q, rfl, rfl, q0, q1, k1, k3, k4.out⟩
   case measure => simp [intOf]; omega
theorem zpno0 {P : Prop} (h : P := by
 go_enter Tryz.func17, Tryz.ntmps17
 go_wp2
 go_ret
 exact ⟨rfl, (Below.refl _ _).alloc (Nat.le_refl _) _⟩) : P := h
theorem rright_n1 (n d : Int) (w : World) (a : n < 0) :
  Calls Tryz.prog 17 #[.agg #[n, d]] w fun e w' => e = .returned false ∧ Below w w w' := by
 have t1 : decide (n < 0) = true := zx
 exact zpno0
theorem rright_n2 (n d : Int) (w : World) (a : 0 ≤ n) (b : 4611686018427387904 < n) :
  Calls Tryz.prog 17 #[.agg #[n, d]] w fun e w' => e = .returned false ∧ Below w w w' := by
 have t1 : decide (n < 0) = false := zx
 have t2 : decide (4611686018427387904 < n) = true := zx
 exact zpno0
theorem rright_n3 (n d : Int) (w : World) (a : 0 ≤ n) (b : n ≤ 4611686018427387904) (c : d < 1) :
  Calls Tryz.prog 17 #[.agg #[n, d]] w fun e w' => e = .returned false ∧ Below w w w' := by
 have t1 : decide (n < 0) = false := zx
 have t2 : decide (4611686018427387904 < n) = false := zx
 have t3 : decide (d < 1) = true := zx
 exact zpno0
theorem rright_n4 (n d : Int) (w : World) (a : 0 ≤ n) (b : n ≤ 4611686018427387904) (c : 1 ≤ d) (e : 4611686018427387904 < d) :
  Calls Tryz.prog 17 #[.agg #[n, d]] w fun e w' => e = .returned false ∧ Below w w w' := by
 have t1 : decide (n < 0) = false := zx
 have t2 : decide (4611686018427387904 < n) = false := zx
 have t3 : decide (d < 1) = false := zx
 have t4 : decide (4611686018427387904 < d) = true := zx
 exact zpno0
theorem rright_any (n d : Int) (w : World) :
  Calls Tryz.prog 17 #[.agg #[n, d]] w fun e w' => e = .returned (zAi n d) ∧ Below w w w' := by
 have no : ¬ (0 ≤ n ∧ n ≤ 4611686018427387904 ∧ 1 ≤ d ∧ d ≤ 4611686018427387904 ∧ gi n d = 1) → zAi n d = false := fun h => by unfold zAi; exact decide_eq_false h
 by_cases a : n < 0
 ·rw [no zo]; exact rright_n1 n d w a
 by_cases b : 4611686018427387904 < n
 ·rw [no zo]; exact rright_n2 n d w zo b
 by_cases c : d < 1
 ·rw [no zo]; exact rright_n3 n d w zo zo c
 by_cases e : 4611686018427387904 < d
 ·rw [no zo]; exact rright_n4 n d w zo zo zo e
 have k := rright_in n d w zo zo zo zo
 have : decide (gi n d = 1) = zAi n d := by
  by_cases g : gi n d = 1
  ·rw [(zBb n d).2 ⟨zo, zo, zo, zo, g⟩]; exact decide_eq_true g
  ·rw [no zo]; exact decide_eq_false g
 rwa [this] at k
theorem rright_is (n d : Int) (c : Bool) (w : World) (h : zAi n d = c) :
  Calls Tryz.prog 17 #[.agg #[n, d]] w fun e w' => e = .returned c ∧ Below w w w' := by
 subst h; exact rright_any n d w
end Go.Proofs.YtpfgdfpaoldhcaaGreatDoor
namespace Go.Proofs.YtpfgdfpaoldhcaaGreatDoor
open Go.RowKit
end Go.Proofs.YtpfgdfpaoldhcaaGreatDoor
namespace Go.Proofs.YtpfgdfpaoldhcaaGreatDoor
open Go.RowKit
theorem part_right (x : Int) (h0 : 0 ≤ x) (h1 : x ≤ 3700000) : zAi (rN x 360) (rD x 360) = true := by
 have f := zBz x h0 h1
 have y := zCo f
 rw [y.1, y.2.1]
 exact zSh h0 zd f
theorem part_add (x y : Int) (x0 : 0 ≤ x) (x1 : x ≤ 3700000) (y0 : 0 ≤ y) (y1 : y ≤ 3700000) (s : x + y ≤ 3700000) :
  rN (rN x 360 * rD y 360 + rN y 360 * rD x 360) (rD x 360 * rD y 360) = rN (x + y) 360 ∧ rD (rN x 360 * rD y 360 + rN y 360 * rD x 360) (rD x 360 * rD y 360) = rD (x + y) 360 ∧ rE (rN x 360 * rD y 360 + rN y 360 * rD x 360) (rD x 360 * rD y 360) = 0 := by
 have a := zCo (zBz x x0 x1)
 have b := zCo (zBz y y0 y1)
 rw [a.1, a.2.1, b.1, b.2.1]
 have c1 := zRm x 360
 have c2 := zRm y 360
 have p1 := zE1 x 360 zd
 have p2 := zE1 y 360 zd
 have e : (mN x 360 * mD y 360 + mN y 360 * mD x 360) * 360 = (x + y) * (mD x 360 * mD y 360) := by grind
 have r := r_eq (Int.mul_pos p1 p2) (show (0 : Int) < 360 by decide) e
 exact ⟨r.1, r.2.1, r.2.2.trans (zCo (zBz (x + y) zo s)).2.2⟩
theorem nb_lex (y1 m1 d1 y2 m2 d2 : Int) (h1 : may y1 m1 d1) (h2 : may y2 m2 d2) (h : nb y1 m1 d1 ≤ nb y2 m2 d2) : 12 * y1 + m1 < 12 * y2 + m2 ∨ (y1 = y2 ∧ m1 = m2 ∧ d1 ≤ d2) := by
 have a := h1
 have b := h2
 obtain ⟨-, -, a3, a4, -, -⟩ := a
 obtain ⟨-, -, b3, b4, -, -⟩ := b
 by_cases c : 12 * y1 + m1 < 12 * y2 + m2
 ·exact Or.inl c
 ·by_cases k : y2 < y1 ∨ y2 = y1 ∧ (m2 < m1 ∨ m2 = m1 ∧ d2 < d1)
  ·have := nb_lt _ _ _ _ _ _ h2 h1 k
   omega
  ·exact Or.inr zo
theorem cutD_bd (d : Int) (h1 : 1 ≤ d) (h2 : d ≤ 31) : 1 ≤ cutD d ∧ cutD d ≤ 30 := by unfold cutD; split <;> omega
theorem cutD_le (d e : Int) (h : d ≤ e) (he : e ≤ 31) : cutD d ≤ cutD e := by unfold cutD; split <;> split <;> omega
theorem eX_raw (y1 m1 d1 y2 m2 d2 : Int) (h1 : may y1 m1 d1) (h2 : may y2 m2 d2) (h : nb y1 m1 d1 ≤ nb y2 m2 d2) : 0 ≤ 360 * (y2 - y1) + 30 * (m2 - m1) + (cutD d2 - cutD d1) := by
 have l1 := zAh y1 m1
 have l2 := zAh y2 m2
 have k := nb_lex _ _ _ _ _ _ h1 h2 h
 obtain ⟨-, -, -, -, a5, a6⟩ := h1
 obtain ⟨-, -, -, -, b5, b6⟩ := h2
 have c1 := cutD_bd d1 a5 zo
 have c2 := cutD_bd d2 b5 zo
 rcases k with k | ⟨rfl, rfl, k⟩
 ·omega
 ·have := cutD_le d1 d2 k zo
  omega
theorem px_most (y1 m1 d1 y2 m2 d2 e1 e2 : Int) (h1 : may y1 m1 d1) (h2 : may y2 m2 d2) (a : 0 ≤ e1 ∧ e1 ≤ 31) (b : 0 ≤ e2 ∧ e2 ≤ 31) : 0 ≤ px y1 m1 e1 y2 m2 e2 ∧ px y1 m1 e1 y2 m2 e2 ≤ 3700000 := by
 obtain ⟨a1, a2, a3, a4, -, -⟩ := h1
 obtain ⟨b1, b2, b3, b4, -, -⟩ := h2
 exact zSe _ _ _ _ _ _ a1 a2 b1 b2 a3 a4 b3 b4 a.1 a.2 b.1 b.2
end Go.Proofs.YtpfgdfpaoldhcaaGreatDoor
namespace Go.Proofs.YtpfgdfpaoldhcaaGreatDoor
open Go.RowKit
end Go.Proofs.YtpfgdfpaoldhcaaGreatDoor
namespace Go.Proofs.YtpfgdfpaoldhcaaGreatDoor
open Go.RowKit
end Go.Proofs.YtpfgdfpaoldhcaaGreatDoor
namespace Go.Proofs.YtpfgdfpaoldhcaaGreatDoor
open Go.RowKit
end Go.Proofs.YtpfgdfpaoldhcaaGreatDoor
namespace Go.Proofs.YtpfgdfpaoldhcaaGreatDoor
open Go.RowKit
end Go.Proofs.YtpfgdfpaoldhcaaGreatDoor
namespace Go.Proofs.YtpfgdfpaoldhcaaGreatDoor
open Go.RowKit
end Go.Proofs.YtpfgdfpaoldhcaaGreatDoor
namespace Go.Proofs.YtpfgdfpaoldhcaaGreatDoor
open Go.RowKit
end Go.Proofs.YtpfgdfpaoldhcaaGreatDoor
namespace Go.Proofs.YtpfgdfpaoldhcaaGreatDoor
end Go.Proofs.YtpfgdfpaoldhcaaGreatDoor
namespace Go.Proofs.YtpfgdfpaoldhcaaGreatDoor
open Go.RowKit
end Go.Proofs.YtpfgdfpaoldhcaaGreatDoor
namespace Go.Proofs.YtpfgdfpaoldhcaaGreatDoor
open Go.RowKit
end Go.Proofs.YtpfgdfpaoldhcaaGreatDoor
namespace Go.Proofs.YtpfgdfpaoldhcaaGreatDoor
open Go.RowKit
theorem yX_add (y1 m1 d1 y2 m2 d2 y3 m3 d3 : Int) : yX y1 m1 d1 y2 m2 d2 + yX y2 m2 d2 y3 m3 d3 = yX y1 m1 d1 y3 m3 d3 := by unfold yX inX; omega
theorem yX_bd (y1 m1 d1 y2 m2 d2 : Int) (h1 : may y1 m1 d1) (h2 : may y2 m2 d2) (h : nb y1 m1 d1 ≤ nb y2 m2 d2) :
  365 * (nb y2 m2 d2 - nb y1 m1 d1) ≤ yX y1 m1 d1 y2 m2 d2 ∧ yX y1 m1 d1 y2 m2 d2 ≤ 366 * (nb y2 m2 d2 - nb y1 m1 d1) ∧ 366 * (nb y2 m2 d2 - nb y1 m1 d1) ≤ 1400000000 := by
 have le := lv_le _ _ _ _ _ _ h1 h2 h
 have a := zAd _ _ _ h1
 have b := zAd _ _ _ h2
 unfold yX inX
 omega
theorem ac_right (x k : Int) (h0 : 0 ≤ x) (h1 : x ≤ 4000000000) (k0 : 0 < k) (k1 : k ≤ 200000) : zAi (rN x k) (rD x k) = true := by
 have f := zCn x k h0 h1 k0 k1
 have y := zCo f
 rw [y.1, y.2.1]
 exact zSh h0 k0 f
theorem ac_add (x y k : Int) (x0 : 0 ≤ x) (y0 : 0 ≤ y) (s : x + y ≤ 4000000000) (k0 : 0 < k) (k1 : k ≤ 200000) :
  rN (rN x k * rD y k + rN y k * rD x k) (rD x k * rD y k) = rN (x + y) k ∧ rD (rN x k * rD y k + rN y k * rD x k) (rD x k * rD y k) = rD (x + y) k ∧ rE (rN x k * rD y k + rN y k * rD x k) (rD x k * rD y k) = 0 := by
 have a := zCo (zCn x k x0 zo k0 k1)
 have b := zCo (zCn y k y0 zo k0 k1)
 rw [a.1, a.2.1, b.1, b.2.1]
 have c1 := zRm x k
 have c2 := zRm y k
 have p1 := zE1 x k k0
 have p2 := zE1 y k k0
 have e : (mN x k * mD y k + mN y k * mD x k) * k = (x + y) * (mD x k * mD y k) := by grind
 have r := r_eq (Int.mul_pos p1 p2) k0 e
 exact ⟨r.1, r.2.1, r.2.2.trans (zCo (zCn (x + y) k zo s k0 k1)).2.2⟩
theorem ac_days (a b k : Int) (h1 : 1 ≤ a ∧ a ≤ 3652059) (h2 : 1 ≤ b ∧ b ≤ 3652059) (h : a ≤ b) : AcIs aX k a b (rN (b - a) k) (rD (b - a) k) 0 := by
 obtain ⟨y1, m1, d1, a1, a2⟩ := zBk a h1.1 h1.2
 obtain ⟨y2, m2, d2, b1, b2⟩ := zBk b h2.1 h2.2
 exact Or.inl ⟨y1, m1, d1, y2, m2, d2, a1, a2, b1, b2, h, by unfold aX; rw [a2, b2], by unfold aX; rw [a2, b2], rfl⟩
theorem ac_years {a b : Int} (y1 m1 d1 y2 m2 d2 x : Int) (h1 : may y1 m1 d1) (ha : nb y1 m1 d1 = a) (h2 : may y2 m2 d2) (hb : nb y2 m2 d2 = b) (h : a ≤ b) (hx : yX y1 m1 d1 y2 m2 d2 = x) : AcIs yX 133590 a b (rN x 133590) (rD x 133590) 0 :=
 Or.inl ⟨y1, m1, d1, y2, m2, d2, h1, ha, h2, hb, h, by rw [hx], by rw [hx], rfl⟩
end Go.Proofs.YtpfgdfpaoldhcaaGreatDoor
namespace Go.Proofs.YtpfgdfpaoldhcaaGreatDoor
open Go.RowKit Go.Extern.Stop Go.Stop Go.Extern
end Go.Proofs.YtpfgdfpaoldhcaaGreatDoor
namespace Go.Proofs.YtpfgdfpaoldhcaaGreatDoor
open Go.RowKit
end Go.Proofs.YtpfgdfpaoldhcaaGreatDoor
namespace Go.Proofs.YtpfgdfpaoldhcaaGreatDoor
open Go.RowKit
end Go.Proofs.YtpfgdfpaoldhcaaGreatDoor
namespace Go.Proofs.YtpfgdfpaoldhcaaGreatDoor
open Go.RowKit
end Go.Proofs.YtpfgdfpaoldhcaaGreatDoor
namespace Go.Proofs.YtpfgdfpaoldhcaaGreatDoor
open Go.RowKit
end Go.Proofs.YtpfgdfpaoldhcaaGreatDoor
namespace Go.Proofs.YtpfgdfpaoldhcaaGreatDoor
open Go.RowKit Go.Extern.Stop Go.Stop Go.Extern
end Go.Proofs.YtpfgdfpaoldhcaaGreatDoor
namespace Go.Proofs.YtpfgdfpaoldhcaaGreatDoor
open Go.RowKit Go.Extern.Stop Go.Stop Go.Extern
end Go.Proofs.YtpfgdfpaoldhcaaGreatDoor
namespace Go.Proofs.YtpfgdfpaoldhcaaGreatDoor
end Go.Proofs.YtpfgdfpaoldhcaaGreatDoor
namespace Go.Proofs.YtpfgdfpaoldhcaaGreatDoor
theorem ic_ok {X : Nat → Int} {n : Nat} {f a b : Int} (h2 : a ≤ b) (h3 : MayX X n f) (h4 : X 0 ≤ a) (h5 : b ≤ X (n - 1)) : IcIs X n f a b (vP X (n - 1) f a b).num (vP X (n - 1) f a b).den 0 := by
 have k0 := h3.2.2.2.1.1 0 (by have := h3.1; omega)
 have k1 := h3.2.2.2.1.1 (n - 1) (by have := h3.1; omega)
 refine .inr (.inr (.inr ⟨⟨⟨?_, ?_⟩, ⟨?_, ?_⟩⟩, h2, ⟨h3, h4, h5⟩, rfl, rfl, rfl⟩)) <;> omega
end Go.Proofs.YtpfgdfpaoldhcaaGreatDoor
namespace Go.Proofs.YtpfgdfpaoldhcaaGreatDoor
open Go.RowKit
end Go.Proofs.YtpfgdfpaoldhcaaGreatDoor
namespace Go.Proofs.YtpfgdfpaoldhcaaGreatDoor
open Go.RowKit
end Go.Proofs.YtpfgdfpaoldhcaaGreatDoor
namespace Go.Proofs.YtpfgdfpaoldhcaaGreatDoor
open Go.RowKit
end Go.Proofs.YtpfgdfpaoldhcaaGreatDoor
namespace Go.Proofs.YtpfgdfpaoldhcaaGreatDoor
open Go.RowKit
end Go.Proofs.YtpfgdfpaoldhcaaGreatDoor
namespace Go.Proofs.YtpfgdfpaoldhcaaGreatDoor
open Go.RowKit Go.Shelf
attribute [local go_sem] Oper.semAt_some
end Go.Proofs.YtpfgdfpaoldhcaaGreatDoor
namespace Go.Proofs.YtpfgdfpaoldhcaaGreatDoor
open Go.RowKit Go.Shelf
attribute [local go_sem] Oper.semAt_some
end Go.Proofs.YtpfgdfpaoldhcaaGreatDoor
namespace Go.Proofs.YtpfgdfpaoldhcaaGreatDoor
open Go.RowKit Go.Shelf
attribute [local go_sem] Oper.semAt_some
end Go.Proofs.YtpfgdfpaoldhcaaGreatDoor
namespace Go.Proofs.YtpfgdfpaoldhcaaGreatDoor
theorem vP_adds (X : Nat → Int) (n : Nat) (f a b c : Int) : vP X n f a b + vP X n f b c = vP X n f a c := by
 unfold vP
 rw [Rat.div_def, Rat.div_def, Rat.div_def]
 grind
theorem vP_same (X : Nat → Int) (n : Nat) (f a : Int) : vP X n f a a = 0 := by
 unfold vP
 rw [Rat.sub_self, Rat.div_def, Rat.zero_mul]
theorem rat_div_pos {x : Rat} {d : Int} (hx : 0 < x) (hd : 0 < d) : 0 < x / (d : Rat) := by
 rw [Rat.div_def]
 refine Rat.mul_pos hx (Rat.inv_pos.2 ?_)
 have : (0 : Rat) = ((0 : Int) : Rat) := rfl
 rw [this]
 exact Rat.intCast_lt_intCast.2 hd
theorem step_pos {a b x y : Int} (hab : a ≤ b) (hxy : x ≤ y) (h : 0 < zAs a b x y) : 0 < tm x y b - tm x y a := by
 obtain ⟨k, _, e⟩ := zJb hab hxy h
 rw [e]
 refine rat_div_pos ?_ zo
 have : (0 : Rat) = ((0 : Int) : Rat) := rfl
 rw [this]
 exact Rat.intCast_lt_intCast.2 h
theorem rat_add_pos_l {x y : Rat} (hx : 0 < x) (hy : 0 ≤ y) : 0 < x + y := by
 have h := Rat.add_le_add_left (a := 0) (b := y) (c := x) |>.2 hy
 rw [Rat.add_zero] at h
 exact Rat.not_le.1 (fun k => (Rat.not_le.2 hx) (Rat.le_trans h k))
theorem vP_pos (X : Nat → Int) (f a b : Int) (hf : 0 < f) (h0 : X 0 ≤ a) (hab : a < b) : ∀ n, Rising X (n + 1) → a < X n → 0 < vP X n f a b := by
 intro n
 induction n with
 | zero => intro _ h; omega
 | succ n ih =>
  intro hX h
  have hle := hX.2 n zo
  have hX' := hX.less (m := n + 1) zo
  rw [zH7]
  by_cases c : a < X n
  ·exact rat_add_pos_l (ih hX' c) (zE3 (zM7 (Int.le_of_lt hab) hle) hf)
  ·have hd : 0 < zAs a b (X n) (X (n + 1)) := by unfold zAs; omega
   rw [Rat.add_comm]
   exact rat_add_pos_l (rat_div_pos (step_pos (Int.le_of_lt hab) hle hd) hf) (zUs X f a b (Int.le_of_lt hab) hf n hX')
theorem vP_zero_iff (X : Nat → Int) (n : Nat) (f a b : Int) (hf : 0 < f) (h0 : X 0 ≤ a) (hab : a ≤ b) (hb : b ≤ X n) (hX : Rising X (n + 1)) : (vP X n f a b).num = 0 ↔ a = b := by
 rw [Rat.num_eq_zero]
 constructor
 ·intro h
  by_cases c : a < b
  ·have := vP_pos X f a b hf h0 c n hX zo
   rw [h] at this
   exact absurd this Rat.lt_irrefl
  ·omega
 ·rintro rfl
  exact vP_same X n f a
theorem adds_all (X : Nat → Int) (m : Nat) (f a b c : Int) (h : MayX X (m + 1) f) (h0 : X 0 ≤ a) (hab : a ≤ b) (hbc : b ≤ c) (hc : c ≤ X m) :
  ∃ p q r s t u, IcIs X (m + 1) f a b p q 0 ∧ IcIs X (m + 1) f b c r s 0 ∧ IcIs X (m + 1) f a c t u 0 ∧ zAi p q = true ∧ zAi r s = true ∧ (rN (p * s + r * q) (q * s) = t ∧ rD (p * s + r * q) (q * s) = u ∧ rE (p * s + r * q) (q * s) = 0) ∧ ((p == 0) = (a == b)) := by
 obtain ⟨k1, k2, k3, k4, k5⟩ := h
 have hh : MayX X (m + 1) f := ⟨k1, k2, k3, k4, k5⟩
 have r1 := zG5 X m f a b k4 zo k3 hab
 have r2 := zG5 X m f b c k4 zo k3 hbc
 have r3 := zG5 X m f a c k4 zo k3 zo
 have e := vP_adds X m f a b c
 have z := vP_zero_iff X m f a b zo h0 hab zo k4
 refine ⟨_, _, _, _, _, _, ic_ok hab hh h0 (show b ≤ X m by omega), ic_ok hbc hh (show X 0 ≤ b by omega) hc, ic_ok (show a ≤ c by omega) hh h0 hc, r1, r2, ?_, ?_⟩
 ·have := add_is _ _ r1 r2 (by rw [e]; exact r3)
  rw [e] at this
  exact this
 ·by_cases k : a = b
  ·rw [beq_iff_eq.2 k]
   exact beq_iff_eq.2 (z.2 k)
  ·rw [beq_eq_false_iff_ne.2 k]
   exact beq_eq_false_iff_ne.2 (fun y => k (z.1 y))
end Go.Proofs.YtpfgdfpaoldhcaaGreatDoor
namespace Go.Proofs.YtpfgdfpaoldhcaaGreatDoor
open Go.RowKit
end Go.Proofs.YtpfgdfpaoldhcaaGreatDoor
namespace Go.Proofs.YtpfgdfpaoldhcaaGreatDoor
open Go.RowKit
theorem cut_off (d : Int) : -3 ≤ cutD d - d ∧ cutD d - d ≤ 3 := by unfold cutD; split <;> omega
theorem feb_ln (y : Int) : 28 ≤ ln y 2 ∧ ln y 2 ≤ 29 := by unfold ln l0; cases lp y <;> decide
theorem ful_off (y m d : Int) (h : may y m d) : -3 ≤ fulD y m d - d ∧ fulD y m d - d ≤ 3 := by
 obtain ⟨-, -, h3, h4, h5, h6⟩ := h
 have := zGr y m h3 h4
 have := (zAh y m).2
 unfold fulD
 split <;> omega
theorem is_off (t : Bool) (y m d : Int) (h : may y m d) : -3 ≤ isB t y m d - d ∧ isB t y m d - d ≤ 3 := by
 obtain ⟨-, -, h3, h4, h5, h6⟩ := h
 have := zGr y m h3 h4
 have := (zAh y m).2
 unfold isB
 split <;> omega
theorem us_off (t : Bool) (y1 m1 d1 y2 m2 d2 : Int) (h1 : may y1 m1 d1) (h2 : may y2 m2 d2) :
  (-3 ≤ cutD (usA t (febB y1 m1 d1) d1) - d1 ∧ cutD (usA t (febB y1 m1 d1) d1) - d1 ≤ 3) ∧
  (-3 ≤ usC (usA t (febB y1 m1 d1) d1) (usB t (febB y1 m1 d1) (febB y2 m2 d2) d2) - d2 ∧ usC (usA t (febB y1 m1 d1) d1) (usB t (febB y1 m1 d1) (febB y2 m2 d2) d2) - d2 ≤ 3) := by
 have f1 : febB y1 m1 d1 = true → 28 ≤ d1 ∧ d1 ≤ 29 := fun h => by
  unfold febB at h
  rw [decide_eq_true_eq] at h
  have := feb_ln y1
  obtain ⟨rfl, h⟩ := h
  omega
 have f2 : febB y2 m2 d2 = true → 28 ≤ d2 ∧ d2 ≤ 29 := fun h => by
  unfold febB at h
  rw [decide_eq_true_eq] at h
  have := feb_ln y2
  obtain ⟨rfl, h⟩ := h
  omega
 generalize febB y1 m1 d1 = u1 at f1 ⊢
 generalize febB y2 m2 d2 = u2 at f2 ⊢
 have a : -3 ≤ usA t u1 d1 - d1 ∧ usA t u1 d1 - d1 ≤ 2 ∧ (usA t u1 d1 = d1 ∨ usA t u1 d1 = 30) := by
  unfold usA
  split
  ·rename_i k; have := f1 k.2; omega
  ·omega
 generalize usA t u1 d1 = A at a ⊢
 constructor
 ·unfold cutD; split <;> omega
 ·have b : -3 ≤ usB t u1 u2 d2 - d2 ∧ usB t u1 u2 d2 - d2 ≤ 2 ∧ (usB t u1 u2 d2 = d2 ∨ usB t u1 u2 d2 = 30) := by
   unfold usB
   split
   ·rename_i k; have := f2 k.2.2; omega
   ·omega
  generalize usB t u1 u2 d2 = B at b ⊢
  unfold usC
  split <;> omega
theorem us_same (t : Bool) (y m d : Int) : uX t y m d y m d = 0 := by
 unfold uX
 generalize febB y m d = u
 have e : usB t u u d = usA t u d := by unfold usB usA; cases t <;> cases u <;> rfl
 rw [e]
 generalize usA t u d = A
 have e2 : usC A A = cutD A := by unfold usC cutD; split <;> split <;> omega
 rw [e2]
 unfold px
 split <;> omega
theorem e_same (y m d : Int) : eX y m d y m d = 0 := by unfold eX px; split <;> omega
theorem is_same (t : Bool) (y m d : Int) (h : may y m d) : iX t y m d y m d = 0 := by
 obtain ⟨-, -, h3, h4, h5, h6⟩ := h
 have f := feb_ln y
 have e : isB t y m d ≤ fulD y m d := by
  unfold isB fulD
  by_cases k : d = ln y m
  ·rw [if_pos k]
   split
   ·omega
   ·rename_i k2
    have : m = 2 := Classical.byContradiction fun z => k2 ⟨k, fun x => z x.2⟩
    subst this
    omega
  ·rw [if_neg k, if_neg (fun x => k x.1)]; omega
 have e2 : isB t y m d = fulD y m d ∨ isB t y m d < fulD y m d := zo
 unfold iX px
 split <;> omega
theorem co_same {k a : Int} {t : Bool} {en f : Int} {X : Nat → Int} {n : Nat} (hk : 0 ≤ k ∧ k ≤ 6) (h : 1 ≤ a ∧ a ≤ 3652059) (h6 : k = 6 → MayX X n f ∧ X 0 ≤ a ∧ a ≤ X (n - 1)) : CoIs k a a t en f X n 0 1 0 := by
 obtain ⟨y, m, d, h1, h2⟩ := zBk a h.1 h.2
 have z0 : rN 0 360 = 0 := ze
 have z1 : rD 0 360 = 1 := ze
 have : k = 0 ∨ k = 1 ∨ k = 2 ∨ k = 3 ∨ k = 4 ∨ k = 5 ∨ k = 6 := zo
 rcases this with e | e | e | e | e | e | e
 ·exact Or.inl ⟨e, part_in y m d y m d h1 h2 h1 h2 (Int.le_refl _) 0 (us_same t y m d) z0 z1⟩
 ·exact Or.inr (Or.inl ⟨e, part_in y m d y m d h1 h2 h1 h2 (Int.le_refl _) 0 (e_same y m d) z0 z1⟩)
 ·exact Or.inr (Or.inr (Or.inl ⟨e, part_in y m d y m d h1 h2 h1 h2 (Int.le_refl _) 0 (is_same _ y m d h1) z0 z1⟩))
 ·refine Or.inr (Or.inr (Or.inr (Or.inl ⟨e, ac_in y m d y m d h1 h2 h1 h2 (Int.le_refl _) ?_ ?_⟩))) <;> (unfold aX; rw [Int.sub_self]; decide +kernel)
 ·refine Or.inr (Or.inr (Or.inr (Or.inr (Or.inl ⟨e, ac_in y m d y m d h1 h2 h1 h2 (Int.le_refl _) ?_ ?_⟩)))) <;> (unfold aX; rw [Int.sub_self]; decide +kernel)
 ·have z : yX y m d y m d = 0 := by unfold yX inX; omega
  refine Or.inr (Or.inr (Or.inr (Or.inr (Or.inr (Or.inl ⟨e, ac_in y m d y m d h1 h2 h1 h2 (Int.le_refl _) ?_ ?_⟩))))) <;> (rw [z]; decide +kernel)
 ·obtain ⟨hm, h0, hn⟩ := h6 e
  have z : vP X (n - 1) f a a = 0 := vP_same X (n - 1) f a
  refine Or.inr (Or.inr (Or.inr (Or.inr (Or.inr (Or.inr (Or.inl ⟨e, Or.inr (Or.inr (Or.inr ⟨⟨h, h⟩, Int.le_refl _, ⟨hm, h0, hn⟩, ?_, ?_, rfl⟩))⟩))))))
  ·rw [z]; rfl
  ·rw [z]; rfl
theorem co_told {k a b : Int} {t : Bool} {en f : Int} {X : Nat → Int} {n : Nat} (hk : 0 ≤ k ∧ k ≤ 6) (h1 : 1 ≤ a ∧ a ≤ 3652059) (h2 : 1 ≤ b ∧ b ≤ 3652059) (h : a ≤ b) (h6 : k = 6 → MayX X n f ∧ X 0 ≤ a ∧ b ≤ X (n - 1)) :
  ∃ p q, CoIs k a b t en f X n p q 0 ∧ zAi p q = true := by
 obtain ⟨y1, m1, d1, a1, a2⟩ := zBk a h1.1 h1.2
 obtain ⟨y2, m2, d2, b1, b2⟩ := zBk b h2.1 h2.2
 have hn : nb y1 m1 d1 ≤ nb y2 m2 d2 := zo
 have c0 : ∀ e1 e2 : Int, -3 ≤ e1 - d1 ∧ e1 - d1 ≤ 3 → -3 ≤ e2 - d2 ∧ e2 - d2 ≤ 3 → 0 ≤ px y1 m1 e1 y2 m2 e2 ∧ px y1 m1 e1 y2 m2 e2 ≤ 3700000 := fun e1 e2 u v => by
  obtain ⟨g1, g2, g3, g4, g5, g6⟩ := a1
  obtain ⟨k1, k2, k3, k4, k5, k6⟩ := b1
  have l1 := (zAh y1 m1).2
  have l2 := (zAh y2 m2).2
  unfold px
  split <;> omega
 have : k = 0 ∨ k = 1 ∨ k = 2 ∨ k = 3 ∨ k = 4 ∨ k = 5 ∨ k = 6 := zo
 rcases this with e | e | e | e | e | e | e
 ·have u := us_off t y1 m1 d1 y2 m2 d2 a1 b1
  have z := c0 _ _ u.1 u.2
  exact ⟨_, _, Or.inl ⟨e, part_in y1 m1 d1 y2 m2 d2 a1 a2 b1 b2 h _ rfl rfl rfl⟩, part_right _ z.1 z.2⟩
 ·have z := c0 _ _ (cut_off d1) (cut_off d2)
  exact ⟨_, _, Or.inr (Or.inl ⟨e, part_in y1 m1 d1 y2 m2 d2 a1 a2 b1 b2 h _ rfl rfl rfl⟩), part_right _ z.1 z.2⟩
 ·have z := c0 _ _ (ful_off y1 m1 d1 a1) (is_off (decide (b = en)) y2 m2 d2 b1)
  exact ⟨_, _, Or.inr (Or.inr (Or.inl ⟨e, part_in y1 m1 d1 y2 m2 d2 a1 a2 b1 b2 h _ rfl rfl rfl⟩)), part_right _ z.1 z.2⟩
 ·exact ⟨_, _, Or.inr (Or.inr (Or.inr (Or.inl ⟨e, ac_days a b 360 h1 h2 h⟩))), ac_right _ _ zo zo zd zd⟩
 ·exact ⟨_, _, Or.inr (Or.inr (Or.inr (Or.inr (Or.inl ⟨e, ac_days a b 365 h1 h2 h⟩)))), ac_right _ _ zo zo zd zd⟩
 ·have l := yX_bd y1 m1 d1 y2 m2 d2 a1 b1 hn
  exact ⟨_, _, Or.inr (Or.inr (Or.inr (Or.inr (Or.inr (Or.inl ⟨e, ac_years y1 m1 d1 y2 m2 d2 _ a1 a2 b1 b2 h rfl⟩))))), ac_right _ _ zo zo zd zd⟩
 ·obtain ⟨hm, h0, hb⟩ := h6 e
  have hx := hm.2.2.2.1
  have r := zG5 X (n - 1) f a b (hx.less (by have := hm.1; omega)) (by have := hm.2.1; omega) hm.2.2.1 h
  exact ⟨_, _, Or.inr (Or.inr (Or.inr (Or.inr (Or.inr (Or.inr (Or.inl ⟨e, Or.inr (Or.inr (Or.inr ⟨⟨h1, h2⟩, h, ⟨hm, h0, hb⟩, rfl, rfl, rfl⟩))⟩)))))), r⟩
def Adds (k a b c : Int) (t : Bool) (en f : Int) (X : Nat → Int) (n : Nat) : Prop :=
 ∃ p q r s u v, CoIs k a b t en f X n p q 0 ∧ CoIs k b c t en f X n r s 0 ∧ CoIs k a c t en f X n u v 0 ∧ zAi p q = true ∧ zAi r s = true ∧
  (rN (p * s + r * q) (q * s) = u ∧ rD (p * s + r * q) (q * s) = v ∧ rE (p * s + r * q) (q * s) = 0)
theorem co_adds {k a b c : Int} {t : Bool} {en f : Int} {X : Nat → Int} {n : Nat} (hk : k = 1 ∨ k = 3 ∨ k = 4 ∨ k = 5) (h1 : 1 ≤ a ∧ a ≤ 3652059) (h2 : 1 ≤ b ∧ b ≤ 3652059) (h3 : 1 ≤ c ∧ c ≤ 3652059) (hab : a ≤ b) (hbc : b ≤ c) :
  Adds k a b c t en f X n := by
 have hac : a ≤ c := zo
 rcases hk with e | e | e | e
 ·obtain ⟨y1, m1, d1, a1, a2⟩ := zBk a h1.1 h1.2
  obtain ⟨y2, m2, d2, b1, b2⟩ := zBk b h2.1 h2.2
  obtain ⟨y3, m3, d3, c1, c2⟩ := zBk c h3.1 h3.2
  have r1 := eX_raw y1 m1 d1 y2 m2 d2 a1 b1 zo
  have r2 := eX_raw y2 m2 d2 y3 m3 d3 b1 c1 zo
  have s : eX y1 m1 d1 y3 m3 d3 = eX y1 m1 d1 y2 m2 d2 + eX y2 m2 d2 y3 m3 d3 := by unfold eX px; split <;> split <;> split <;> omega
  have k1 := cutD_bd d1 a1.2.2.2.2.1 (by have := (zAh y1 m1).2; have := a1.2.2.2.2.2; omega)
  have k2 := cutD_bd d2 b1.2.2.2.2.1 (by have := (zAh y2 m2).2; have := b1.2.2.2.2.2; omega)
  have k3 := cutD_bd d3 c1.2.2.2.2.1 (by have := (zAh y3 m3).2; have := c1.2.2.2.2.2; omega)
  have x1 := px_most y1 m1 d1 y2 m2 d2 (cutD d1) (cutD d2) a1 b1 ⟨zo, zo⟩ ⟨zo, zo⟩
  have x2 := px_most y2 m2 d2 y3 m3 d3 (cutD d2) (cutD d3) b1 c1 ⟨zo, zo⟩ ⟨zo, zo⟩
  have x3 := px_most y1 m1 d1 y3 m3 d3 (cutD d1) (cutD d3) a1 c1 ⟨zo, zo⟩ ⟨zo, zo⟩
  have q := part_add (eX y1 m1 d1 y2 m2 d2) (eX y2 m2 d2 y3 m3 d3) x1.1 x1.2 x2.1 x2.2 (by rw [← s]; exact x3.2)
  rw [← s] at q
  exact ⟨_, _, _, _, _, _, Or.inr (Or.inl ⟨e, part_in y1 m1 d1 y2 m2 d2 a1 a2 b1 b2 hab _ rfl rfl rfl⟩), Or.inr (Or.inl ⟨e, part_in y2 m2 d2 y3 m3 d3 b1 b2 c1 c2 hbc _ rfl rfl rfl⟩), Or.inr (Or.inl ⟨e, part_in y1 m1 d1 y3 m3 d3 a1 a2 c1 c2 hac _ rfl rfl rfl⟩), part_right _ x1.1 x1.2, part_right _ x2.1 x2.2, q⟩
 ·have q := ac_add (b - a) (c - b) 360 zo zo zo zd zd
  rw [show b - a + (c - b) = c - a by omega] at q
  exact ⟨_, _, _, _, _, _, Or.inr (Or.inr (Or.inr (Or.inl ⟨e, ac_days a b 360 h1 h2 hab⟩))), Or.inr (Or.inr (Or.inr (Or.inl ⟨e, ac_days b c 360 h2 h3 hbc⟩))), Or.inr (Or.inr (Or.inr (Or.inl ⟨e, ac_days a c 360 h1 h3 hac⟩))), ac_right _ _ zo zo zd zd, ac_right _ _ zo zo zd zd, q⟩
 ·have q := ac_add (b - a) (c - b) 365 zo zo zo zd zd
  rw [show b - a + (c - b) = c - a by omega] at q
  exact ⟨_, _, _, _, _, _, Or.inr (Or.inr (Or.inr (Or.inr (Or.inl ⟨e, ac_days a b 365 h1 h2 hab⟩)))), Or.inr (Or.inr (Or.inr (Or.inr (Or.inl ⟨e, ac_days b c 365 h2 h3 hbc⟩)))), Or.inr (Or.inr (Or.inr (Or.inr (Or.inl ⟨e, ac_days a c 365 h1 h3 hac⟩)))), ac_right _ _ zo zo zd zd, ac_right _ _ zo zo zd zd, q⟩
 ·obtain ⟨y1, m1, d1, a1, a2⟩ := zBk a h1.1 h1.2
  obtain ⟨y2, m2, d2, b1, b2⟩ := zBk b h2.1 h2.2
  obtain ⟨y3, m3, d3, c1, c2⟩ := zBk c h3.1 h3.2
  have l1 := yX_bd y1 m1 d1 y2 m2 d2 a1 b1 zo
  have l2 := yX_bd y2 m2 d2 y3 m3 d3 b1 c1 zo
  have l3 := yX_bd y1 m1 d1 y3 m3 d3 a1 c1 zo
  have s := yX_add y1 m1 d1 y2 m2 d2 y3 m3 d3
  have q := ac_add (yX y1 m1 d1 y2 m2 d2) (yX y2 m2 d2 y3 m3 d3) 133590 zo zo zo zd zd
  rw [s] at q
  exact ⟨_, _, _, _, _, _, Or.inr (Or.inr (Or.inr (Or.inr (Or.inr (Or.inl ⟨e, ac_years y1 m1 d1 y2 m2 d2 _ a1 a2 b1 b2 hab rfl⟩))))), Or.inr (Or.inr (Or.inr (Or.inr (Or.inr (Or.inl ⟨e, ac_years y2 m2 d2 y3 m3 d3 _ b1 b2 c1 c2 hbc rfl⟩))))), Or.inr (Or.inr (Or.inr (Or.inr (Or.inr (Or.inl ⟨e, ac_years y1 m1 d1 y3 m3 d3 _ a1 a2 c1 c2 hac rfl⟩))))), ac_right _ _ zo zo zd zd, ac_right _ _ zo zo zd zd, q⟩
theorem co_adds6 {a b c : Int} {t : Bool} {en f : Int} {X : Nat → Int} {m : Nat} (h : MayX X (m + 1) f) (h0 : X 0 ≤ a) (hab : a ≤ b) (hbc : b ≤ c) (hc : c ≤ X m) : Adds 6 a b c t en f X (m + 1) := by
 obtain ⟨p, q, r, s, u, v, g1, g2, g3, g4, g5, g6, -⟩ := adds_all X m f a b c h h0 hab hbc hc
 exact ⟨p, q, r, s, u, v, Or.inr (Or.inr (Or.inr (Or.inr (Or.inr (Or.inr (Or.inl ⟨rfl, g1⟩)))))), Or.inr (Or.inr (Or.inr (Or.inr (Or.inr (Or.inr (Or.inl ⟨rfl, g2⟩)))))), Or.inr (Or.inr (Or.inr (Or.inr (Or.inr (Or.inr (Or.inl ⟨rfl, g3⟩)))))), g4, g5, g6⟩
end Go.Proofs.YtpfgdfpaoldhcaaGreatDoor
namespace Go.Proofs.YtpfgdfpaoldhcaaGreatDoor
def mg : List Int → List Int → List Int
 | [], ys => ys
 | x :: xs, [] => x :: xs
 | x :: xs, y :: ys => if x < y then x :: mg xs (y :: ys) else if x = y then y :: mg xs ys else y :: mg (x :: xs) ys
 termination_by xs ys => xs.length + ys.length
def Ca.un (a b : Ca) : Ca where
 o := fun i => a.o i || b.o i
 nr := a.nr + b.nr
 R := fun j => if j < a.nr then a.R j else b.R (j - a.nr)
 nd := (mg (dl a.X a.nd) (dl b.X b.nd)).length
 X := ld (mg (dl a.X a.nd) (dl b.X b.nd))
end Go.Proofs.YtpfgdfpaoldhcaaGreatDoor
namespace Go.Proofs.YtpfgdfpaoldhcaaGreatDoor
variable {t : Tm} {X E : Nat → Int} {m : Nat}
theorem Tm.Walk.dd_step (h : t.Walk X E m) {q i : Nat} (hi : i ≤ q + 1) (hs : ¬ (t.bk = true ∧ i = 0)) (hs2 : ¬ (t.bk = false ∧ i = q + 1)) : t.dd X q i = X (if t.bk = true then q + 1 - i else i) := by
 unfold Tm.dd
 by_cases b : t.bk = true
 ·rw [if_pos b, if_pos b, if_neg (fun e => hs ⟨b, e⟩)]
 ·have b' : t.bk = false := by cases hb : t.bk; rfl; exact absurd hb b
  rw [if_neg b, if_neg b, if_pos (by have : i ≠ q + 1 := fun e => hs2 ⟨b', e⟩; omega)]
end Go.Proofs.YtpfgdfpaoldhcaaGreatDoor
