/- Several texts in one: Quot, RefVal, Fit, RKit, MoCut, MoMonths, Quad, New. -/
import Derived.Test.YtpfgdfpaoldhcaaGreatDoorSrAE
import Derived.Test.YtpfgdfpaoldhcaaGreatDoorSrAD
import Derived.Deep.RegionLaw
import Derived.Deep.AppendLies
set_option maxHeartbeats 8000000
set_option maxRecDepth 100000
set_option linter.unusedVariables false
set_option linter.unusedSimpArgs false
namespace Go.Proofs.YtpfgdfpaoldhcaaGreatDoor
open Go.RowKit
structure Dividing (w : World) (B R n : Nat) (va vb : Value) (da : List Int) (y : Int) (mb : Nat) (q : List Int) (vr : Value) (rn : Int) (rm : Nat) (W : World) : Prop where
 a : Big W va da
 b : BigN W vb y mb
 own : W.ownsRow (B + 4) 3 1 (.slice (some ⟨B + 4, 0, none⟩) n n) n (q.map (Value.int .i64))
 len : q.length = n
 ra : W.cell? ⟨B, 0, none⟩ = some va
 rb : W.cell? ⟨B + 1, 0, none⟩ = some vb
 r1 : W.cell? ⟨B + 2, 0, none⟩ = some (.slice none 0 0)
 f1 : W.frozen? ⟨B + 2, 0, none⟩ = false
 r2 : W.cell? ⟨B + 3, 0, none⟩ = some (.slice none 0 0)
 f2 : W.frozen? ⟨B + 3, 0, none⟩ = false
 rr : W.cell? ⟨R, 0, none⟩ = some vr
 fr : W.frozen? ⟨R, 0, none⟩ = false
 nr : BigN W vr rn rm
 vf : ∀ g, vr.ownBlock = some g → R < g
 fa : ∀ g, va.ownBlock = some g → g < B
 fb : ∀ g, vb.ownBlock = some g → g < B
 hR : B + 5 ≤ R
 old : Below B w W
 size : R < W.heap.size
section
variable {w : World} {B R n : Nat} {va vb : Value} {da : List Int} {y : Int} {mb : Nat} {q : List Int} {vr : Value} {rn : Int} {rm : Nat} {W W' : World}
theorem Dividing.below (h : Dividing w B R n va vb da y mb q vr rn rm W) (hb : Below W W W') : Dividing w B R n va vb da y mb q vr rn rm W' :=
 ⟨h.a.below hb, h.b.below hb, zEt h.own hb, h.len, keep hb (zA0 h.ra) h.ra, keep hb (zA0 h.rb) h.rb, keep hb (zA0 h.r1) h.r1, zA6 hb (zA0 h.r1) h.f1, keep hb (zA0 h.r2) h.r2, zA6 hb (zA0 h.r2) h.f2,
  keep hb (zA0 h.rr) h.rr, zA6 hb (zA0 h.rr) h.fr, h.nr.below hb, h.vf, h.fa, h.fb, h.hR, h.old.trans (hb.mono (by have := h.size; have := h.hR; omega)), Nat.lt_of_lt_of_le h.size hb.size⟩
theorem Dividing.drew (h : Dividing w B R n va vb da y mb q vr rn rm W) : Dividing w B R n va vb da y mb q vr rn rm W.drew :=
 ⟨h.a, h.b, h.own, h.len, h.ra, h.rb, h.r1, h.f1, h.r2, h.f2, h.rr, h.fr, h.nr, h.vf, h.fa, h.fb, h.hR, h.old.drew, h.size⟩
end
section
variable {w : World} {B R n : Nat} {va vb : Value} {da : List Int} {y : Int} {mb : Nat} {q : List Int} {vr : Value} {rn : Int} {rm : Nat} {W : World}
end
structure Ended (w : World) (B R n : Nat) (q : List Int) (u1 u2 vr : Value) (r : Int) (m : Nat) (W : World) : Prop where
 own : W.ownsRow (B + 4) 3 1 (.slice (some ⟨B + 4, 0, none⟩) n n) n (q.map (Value.int .i64))
 len : q.length = n
 c1 : W.cell? ⟨B + 2, 0, none⟩ = some u1
 f1 : W.frozen? ⟨B + 2, 0, none⟩ = false
 c2 : W.cell? ⟨B + 3, 0, none⟩ = some u2
 f2 : W.frozen? ⟨B + 3, 0, none⟩ = false
 cr : W.cell? ⟨R, 0, none⟩ = some vr
 nr : BigN W vr r m
 vf : ∀ g, vr.ownBlock = some g → B + 4 < g
 hR : B + 5 ≤ R
 old : Below B w W
 size : B + 4 < W.heap.size
section
variable {w : World} {B R n : Nat} {q : List Int} {u1 u2 vr : Value} {r : Int} {m : Nat} {W W' : World}
theorem Ended.below (h : Ended w B R n q u1 u2 vr r m W) (hb : Below W W W') : Ended w B R n q u1 u2 vr r m W' :=
 ⟨zEt h.own hb, h.len, keep hb (zA0 h.c1) h.c1, zA6 hb (zA0 h.c1) h.f1, keep hb (zA0 h.c2) h.c2, zA6 hb (zA0 h.c2) h.f2, keep hb (zA0 h.cr) h.cr, h.nr.below hb, h.vf, h.hR, h.old.trans (hb.mono (by have := h.size; omega)), Nat.lt_of_lt_of_le h.size hb.size⟩
end
end Go.Proofs.YtpfgdfpaoldhcaaGreatDoor
namespace Go.Proofs.YtpfgdfpaoldhcaaGreatDoor
open Go.RowKit
theorem BigN.none {W : World} {a : Option Addr} {k c m : Nat} (h : BigN W (.slice a k c) 0 m) : k = 0 := by
 obtain ⟨ds, h1, h2, h3, h4, h5⟩ := h
 obtain ⟨aa, ac, e⟩ := h1.slice
 rw [h5 h3] at e
 cases e; rfl
theorem BigN.some {W : World} {a : Option Addr} {k c m : Nat} {n : Int} (h : BigN W (.slice a k c) n m) (hn : 0 < n) : 0 < k := by
 obtain ⟨ds, h1, h2, h3, h4, h5⟩ := h
 obtain ⟨aa, ac, e⟩ := h1.slice
 cases e
 rcases Nat.eq_zero_or_pos ds.length with hz | hz
 ·have := List.eq_nil_of_length_eq_zero hz
  subst this
  rw [zD9] at h3; omega
 ·exact hz
structure Turning (w W : World) (B m : Nat) (s1 s2 : Value) (p q : Int) : Prop where
 ca : W.cell? ⟨B, 0, none⟩ = some s1
 fa : W.frozen? ⟨B, 0, none⟩ = false
 cb : W.cell? ⟨B + 1, 0, none⟩ = some s2
 fb : W.frozen? ⟨B + 1, 0, none⟩ = false
 cr : W.cell? ⟨B + 2, 0, none⟩ = some (.slice none 0 0)
 fr : W.frozen? ⟨B + 2, 0, none⟩ = false
 na : BigN W s1 p m
 nb : BigN W s2 q m
 oa : ∀ i, s1.ownBlock = some i → i < B ∨ B + 3 ≤ i
 ob : ∀ i, s2.ownBlock = some i → i < B ∨ B + 3 ≤ i
 old : Below B w W
 size : B + 3 ≤ W.heap.size
theorem Turning.below {w W W' : World} {B m : Nat} {s1 s2 : Value} {p q : Int} (h : Turning w W B m s1 s2 p q) (hb : Below W W W') : Turning w W' B m s1 s2 p q :=
 ⟨keep hb (zA0 h.ca) h.ca, zA6 hb (zA0 h.ca) h.fa, keep hb (zA0 h.cb) h.cb, zA6 hb (zA0 h.cb) h.fb, keep hb (zA0 h.cr) h.cr, zA6 hb (zA0 h.cr) h.fr, h.na.below hb, h.nb.below hb, h.oa, h.ob, h.old.trans (hb.mono (by have := h.size; omega)), Nat.le_trans h.size hb.size⟩
theorem zEf (n : Int) : wn 0 n = n := by unfold wn; omega
theorem fit_ok (nh nl dh dl N D : Int) (w : World) (k1 : 0 ≤ nl) (k2 : nl < 18446744073709551616) (k3 : 0 ≤ dl) (k4 : dl < 18446744073709551616) (hN : wn nh nl = N) (hD : wn dh dl = D) (hh : 0 ≤ nh) (hh2 : 0 ≤ dh) (hn : N ≤ 4611686018427387904) (hd : D ≤ 4611686018427387904) :
  Calls Tryz.prog 182 #[.agg #[.int .u64 nh, .int .u64 nl], .agg #[.int .u64 dh, .int .u64 dl]] w fun e w' => e = .returned (.tuple #[.agg #[N, D], (0:Int)]) ∧ Below w w w' := by
 have H := Held.start w
 have HN := zh hN
 have HD := zh hD
 obtain ⟨cN, hcN⟩ : ∃ c, Hid (cmpI N 4611686018427387904 = c) := ⟨_, zh rfl⟩
 obtain ⟨cD, hcD⟩ : ∃ c, Hid (cmpI D 4611686018427387904 = c) := ⟨_, zh rfl⟩
 have tN : decide (0 < cN) = false := by rw [← hcN.out]; exact zF6 hn
 have tD : decide (0 < cD) = false := by rw [← hcD.out]; exact zF6 hd
 have eN : nl = N := by rw [← hN] at hn ⊢; unfold wn at *; omega
 have eD : dl = D := by rw [← hD] at hd ⊢; unfold wn at *; omega
 rw [← eN, ← eD]
 have wN : IntKind.i64.wrap nl = nl := IntWalk.i64_in _ zo
 have wD : IntKind.i64.wrap dl = dl := IntWalk.i64_in _ zo
 clear eN eD
 clear hN hD
 go_enter Tryz.func182, Tryz.ntmps182
 go_wp2_with fail
 replace H := (((H.pair w (.int .u64 nh) (.int .u64 nl) 226 rfl).pair (w + 1) (.int .u64 dh) (.int .u64 dl) 226 zs).pair (w + 2) (0:Int) (0:Int) 48 zs)
 revert H
 with_reducible refine zG (fun _ => zJq 4611686018427387904 _) ?_
 intro w1 H
 obtain ⟨cn0, cn1⟩ := H.cells2 w
 have ln := H.lt w 0 (.int .u64 nh) i8_
 go_wp2_with fail
 clear cn0 cn1 ln
 replace H := (H.pair w1 (.int .u64 0) (.int .u64 4611686018427387904) 226 rfl)
 with_reducible refine (zGg nh nl 0 4611686018427387904 _ k1 k2 zo zo).mono ?_
 rw [HN.out, zEf, hcN.out]
 rintro e w2 ⟨rfl, hb⟩
 replace H := H.below hb
 clear hb
 obtain ⟨cd0, cd1⟩ := H.cells2 (w + 1)
 have ld := H.lt (w + 1) 0 (.int .u64 dh) i8_
 obtain ⟨cm0, cm1⟩ := H.cells2 w1
 have lm := H.lt w1 0 (.int .u64 0) i0_
 go_wp2_with fail
 clear cd0 cd1 ld cm0 cm1 lm
 with_reducible refine (zGg dh dl 0 4611686018427387904 _ k3 k4 zo zo).mono ?_
 rw [HD.out, zEf, hcD.out]
 rintro e w3 ⟨rfl, hb⟩
 replace H := H.below hb
 clear hb
 obtain ⟨cn0, cn1⟩ := H.cells2 w
 have ln := H.lt w 0 (.int .u64 nh) i12_
 obtain ⟨cd0, cd1⟩ := H.cells2 (w + 1)
 have ld := H.lt (w + 1) 0 (.int .u64 dh) i8_
 obtain ⟨cr0, cr1⟩ := H.cells2 (w + 2)
 have lr := H.lt (w + 2) 0 (0:Int) i4_
 obtain ⟨fr0, fr1⟩ := H.frozens2 (w + 2)
 go_wp2_with fail
 exact bodyPost_ret (v := .tuple #[.agg #[nl, dl], (0:Int)]) (by simp [results, Tryz.results182, go_sem, cr0, cr1]) rfl ⟨rfl, (H.old.setCell zw _).setCell zw _⟩
theorem zqc7g {P : Prop} (h : P := by
 replace H := H.below hb
 clear hb
 obtain ⟨cn0, cn1⟩ := H.cells2 w
 have ln := H.lt w 0 (.int .u64 nh) i12_
 obtain ⟨cd0, cd1⟩ := H.cells2 (w + 1)
 have ld := H.lt (w + 1) 0 (.int .u64 dh) i8_
 obtain ⟨cr0, cr1⟩ := H.cells2 (w + 2)
 have lr := H.lt (w + 2) 0 (0:Int) i4_
 obtain ⟨fr0, fr1⟩ := H.frozens2 (w + 2)
 go_wp2_with fail
 exact bodyPost_ret (v := .tuple #[.agg #[(0:Int), (0:Int)], (6:Int)]) (by simp [results, Tryz.results182, go_sem, cr0, cr1]) rfl ⟨rfl, (H.old.setCell zw _).setCell zw _⟩) : P := h
theorem zR3 (nh nl dh dl N D : Int) (w : World) (k1 : 0 ≤ nl) (k2 : nl < 18446744073709551616) (k3 : 0 ≤ dl) (k4 : dl < 18446744073709551616) (hN : wn nh nl = N) (hD : wn dh dl = D) (hn : 4611686018427387904 < N) :
  Calls Tryz.prog 182 #[.agg #[.int .u64 nh, .int .u64 nl], .agg #[.int .u64 dh, .int .u64 dl]] w fun e w' => e = .returned (.tuple #[.agg #[(0:Int), (0:Int)], (6:Int)]) ∧ Below w w w' := by
 have H := Held.start w
 have HN := zh hN
 have HD := zh hD
 obtain ⟨cN, hcN⟩ : ∃ c, Hid (cmpI N 4611686018427387904 = c) := ⟨_, zh rfl⟩
 obtain ⟨cD, hcD⟩ : ∃ c, Hid (cmpI D 4611686018427387904 = c) := ⟨_, zh rfl⟩
 have tN : decide (0 < cN) = true := by rw [← hcN.out, zF5 hn]; rfl
 clear hN hD
 go_enter Tryz.func182, Tryz.ntmps182
 go_wp2_with fail
 replace H := (((H.pair w (.int .u64 nh) (.int .u64 nl) 226 rfl).pair (w + 1) (.int .u64 dh) (.int .u64 dl) 226 zs).pair (w + 2) (0:Int) (0:Int) 48 zs)
 revert H
 with_reducible refine zG (fun _ => zJq 4611686018427387904 _) ?_
 intro w1 H
 obtain ⟨cn0, cn1⟩ := H.cells2 w
 have ln := H.lt w 0 (.int .u64 nh) i8_
 go_wp2_with fail
 clear cn0 cn1 ln
 replace H := (H.pair w1 (.int .u64 0) (.int .u64 4611686018427387904) 226 rfl)
 with_reducible refine (zGg nh nl 0 4611686018427387904 _ k1 k2 zo zo).mono ?_
 rw [HN.out, zEf, hcN.out]
 rintro e w2 ⟨rfl, hb⟩
 exact zqc7g
theorem zR4 (nh nl dh dl N D : Int) (w : World) (k1 : 0 ≤ nl) (k2 : nl < 18446744073709551616) (k3 : 0 ≤ dl) (k4 : dl < 18446744073709551616) (hN : wn nh nl = N) (hD : wn dh dl = D) (hn : N ≤ 4611686018427387904) (hd : 4611686018427387904 < D) :
  Calls Tryz.prog 182 #[.agg #[.int .u64 nh, .int .u64 nl], .agg #[.int .u64 dh, .int .u64 dl]] w fun e w' => e = .returned (.tuple #[.agg #[(0:Int), (0:Int)], (6:Int)]) ∧ Below w w w' := by
 have H := Held.start w
 have HN := zh hN
 have HD := zh hD
 obtain ⟨cN, hcN⟩ : ∃ c, Hid (cmpI N 4611686018427387904 = c) := ⟨_, zh rfl⟩
 obtain ⟨cD, hcD⟩ : ∃ c, Hid (cmpI D 4611686018427387904 = c) := ⟨_, zh rfl⟩
 have tN : decide (0 < cN) = false := by rw [← hcN.out]; exact zF6 hn
 have tD : decide (0 < cD) = true := by rw [← hcD.out, zF5 hd]; rfl
 clear hN hD
 go_enter Tryz.func182, Tryz.ntmps182
 go_wp2_with fail
 replace H := (((H.pair w (.int .u64 nh) (.int .u64 nl) 226 rfl).pair (w + 1) (.int .u64 dh) (.int .u64 dl) 226 zs).pair (w + 2) (0:Int) (0:Int) 48 zs)
 revert H
 with_reducible refine zG (fun _ => zJq 4611686018427387904 _) ?_
 intro w1 H
 obtain ⟨cn0, cn1⟩ := H.cells2 w
 have ln := H.lt w 0 (.int .u64 nh) i8_
 go_wp2_with fail
 clear cn0 cn1 ln
 replace H := (H.pair w1 (.int .u64 0) (.int .u64 4611686018427387904) 226 rfl)
 with_reducible refine (zGg nh nl 0 4611686018427387904 _ k1 k2 zo zo).mono ?_
 rw [HN.out, zEf, hcN.out]
 rintro e w2 ⟨rfl, hb⟩
 replace H := H.below hb
 clear hb
 obtain ⟨cd0, cd1⟩ := H.cells2 (w + 1)
 have ld := H.lt (w + 1) 0 (.int .u64 dh) i8_
 obtain ⟨cm0, cm1⟩ := H.cells2 w1
 have lm := H.lt w1 0 (.int .u64 0) i0_
 go_wp2_with fail
 clear cd0 cd1 ld cm0 cm1 lm
 with_reducible refine (zGg dh dl 0 4611686018427387904 _ k3 k4 zo zo).mono ?_
 rw [HD.out, zEf, hcD.out]
 rintro e w3 ⟨rfl, hb⟩
 exact zqc7g
theorem zL7 (a b p : Int) (w : World) (h1 : 0 ≤ a) (h2 : a < 18446744073709551616) (h3 : 0 ≤ b) (h4 : b < 18446744073709551616) (hp : a * b = p) :
  Calls Tryz.prog 187 #[.int .u64 a, .int .u64 b] w fun e w' => e = .returned (.agg #[.int .u64 (hi p), .int .u64 (lo p)]) ∧ Below w w w' := by
 subst hp; exact mul_any a b w h1 h2 h3 h4
theorem zPr (p q : Int) (w : World) (p0 : 0 ≤ p) (p1 : p < top) (q0 : 0 ≤ q) (q1 : q < top) (h : p + q < top) :
  Calls Tryz.prog 186 #[.agg #[.int .u64 (hi p), .int .u64 (lo p)], .agg #[.int .u64 (hi q), .int .u64 (lo q)]] w fun e w' => e = .returned (.tuple #[.agg #[.int .u64 (hi (p + q)), .int .u64 (lo (p + q))], (0:Int)]) ∧ Below w w w' := by
 have a := hi_bd p p0 p1
 have b := hi_bd q q0 q1
 have := add_yes (hi p) (lo p) (hi q) (lo q) w (zIk p).1 (zIk p).2 a.1 a.2 (zIk q).1 (zIk q).2 b.1 b.2 (by rw [zD2, zD2]; exact h)
 rwa [zD2, zD2] at this
theorem div_hl (p d : Int) (w : World) (p0 : 0 ≤ p) (p1 : p < top) (d0 : 0 < d) (d1 : d < 18446744073709551616) :
  Calls Tryz.prog 188 #[.agg #[.int .u64 (hi p), .int .u64 (lo p)], .int .u64 d] w fun e w' => e = .returned (.tuple #[.agg #[.int .u64 (hi (p / d)), .int .u64 (lo (p / d))], .int .u64 (p % d), (0:Int)]) ∧ Below w w w' := by
 have a := hi_bd p p0 p1
 have b := zIk p
 have := div_yes (hi p) (lo p) d w b.1 b.2 a.1 a.2 d0 d1
 rwa [zD2] at this
theorem zJl (n d : Int) (w : World) (n0 : 0 ≤ n) (n1 : n < 18446744073709551616) (d0 : 0 ≤ d) (d1 : d < 18446744073709551616) (hp : 0 < n ∨ 0 < d) :
  Calls Tryz.prog 181 #[.int .u64 n, .int .u64 d] w fun e w' => e = .returned (.tuple #[.int .u64 (mN n d), .int .u64 (mD n d)]) ∧ Below w w w' :=
 (zOa n d w n0 n1 d0 d1 hp).mono fun _ _ h => ⟨h.1, by obtain ⟨k, hk⟩ := h.2; rw [hk]; exact zBi k⟩
theorem zR2 (nh nl dh dl n d : Int) (w : World) (k1 : 0 ≤ nl) (k2 : nl < 18446744073709551616) (k3 : 0 ≤ dl) (k4 : dl < 18446744073709551616) (hh : 0 ≤ nh) (hh2 : 0 ≤ dh) (hN : wn nh nl = mN n d) (hD : wn dh dl = mD n d) :
  Calls Tryz.prog 182 #[.agg #[.int .u64 nh, .int .u64 nl], .agg #[.int .u64 dh, .int .u64 dl]] w fun e w' => e = .returned (.tuple #[.agg #[(rN n d), (rD n d)], (rE n d)]) ∧ Below w w w' := by
 by_cases h : fitB n d = true
 ·have k := (zCa n d).1 h
  obtain ⟨a, b, c⟩ := zCo h
  rw [a, b, c]
  exact fit_ok nh nl dh dl _ _ w k1 k2 k3 k4 hN hD hh hh2 k.1 k.2
 ·obtain ⟨a, b, c⟩ := r_no h
  rw [a, b, c]
  by_cases h1 : mN n d ≤ 4611686018427387904
  ·have h2 : 4611686018427387904 < mD n d := by
    by_cases h2 : mD n d ≤ 4611686018427387904
    ·exact absurd ((zCa n d).2 ⟨h1, h2⟩) h
    ·omega
   exact zR4 nh nl dh dl _ _ w k1 k2 k3 k4 hN hD h1 h2
  ·exact zR3 nh nl dh dl _ _ w k1 k2 k3 k4 hN hD zo
theorem fit_hl (p q n d : Int) (w : World) (p0 : 0 ≤ p) (q0 : 0 ≤ q) (hN : p = mN n d) (hD : q = mD n d) :
  Calls Tryz.prog 182 #[.agg #[.int .u64 (hi p), .int .u64 (lo p)], .agg #[.int .u64 (hi q), .int .u64 (lo q)]] w fun e w' => e = .returned (.tuple #[.agg #[(rN n d), (rD n d)], (rE n d)]) ∧ Below w w w' :=
 zR2 (hi p) (lo p) (hi q) (lo q) n d w (zIk p).1 (zIk p).2 (zIk q).1 (zIk q).2 (by unfold hi; omega) (by unfold hi; omega) (by rw [zD2]; exact hN) (by rw [zD2]; exact hD)
theorem on_in (y m d k Y M : Int) (w : World) (h : may y m d) (h1 : 1 ≤ Y) (h2 : Y ≤ 9999) (h3 : 1 ≤ M) (h4 : M ≤ 12) (hM : 12 * Y + M = 12 * y + m + k) :
  Calls Tryz.prog 143 #[.agg #[y, m, d], k] w fun e w' => e = .returned (.tuple #[Y, M, (0:Int)]) ∧ Below w w w' := by
 have D : ∀ w : World, Below w w (w.alloc (.cells #[y, m, d] 86)) := fun w => (Below.refl _ _).alloc (Nat.le_refl _) _
 obtain ⟨a1, a2, a3, a4, a5, a6⟩ := h
 clear a6
 have t1 : ¬ k < -((y - 1) * 12 + m - 1) := zo
 have t2 : ¬ k > 119987 - ((y - 1) * 12 + m - 1) := zo
 have e1 : 1 + ((y - 1) * 12 + m - 1 + k) / 12 = Y := zo
 have e2 : 1 + ((y - 1) * 12 + m - 1 + k) % 12 = M := zo
 go_enter Tryz.func143, Tryz.ntmps143
 go_wp2
 exact bodyPost_ret (v := .tuple #[Y, M, (0:Int)]) (by simp [results, Tryz.results143, go_sem]) rfl ⟨rfl, D _⟩
theorem zqwv5 {P : Prop} (h : P := by
 go_enter Tryz.func143, Tryz.ntmps143
 go_wp2
 exact bodyPost_ret (v := .tuple #[(0:Int), (0:Int), (3:Int)]) (by simp [results, Tryz.results143, go_sem]) rfl ⟨rfl, D _⟩) : P := h
theorem on_far (y m d k : Int) (w : World) (h : may y m d) (hk : 12 * y + m + k < 13 ∨ 120000 < 12 * y + m + k) :
  Calls Tryz.prog 143 #[.agg #[y, m, d], k] w fun e w' => e = .returned (.tuple #[(0:Int), (0:Int), (3:Int)]) ∧ Below w w w' := by
 have D : ∀ w : World, Below w w (w.alloc (.cells #[y, m, d] 86)) := fun w => (Below.refl _ _).alloc (Nat.le_refl _) _
 obtain ⟨a1, a2, a3, a4, a5, a6⟩ := h
 clear a6
 by_cases t1 : k < -((y - 1) * 12 + m - 1)
 ·exact zqwv5
 ·have t2 : k > 119987 - ((y - 1) * 12 + m - 1) := zo
  exact zqwv5
theorem zQp (y m d n e : Int) (w : World) (hL : Lens w) (hn : nN y m (min d (ln y m)) = n ∧ nE y m (min d (ln y m)) = e) :
  Calls Tryz.prog 144 #[y, m, d, .func (.func 145) #[] #[]] w fun e' w' => e' = .returned (.tuple #[n, e]) ∧ Below w w w' := by
 have HL := zh hL
 have C1 := zh (fun v h => zBt y m v h)
 have HN := zh hn
 clear hL hn
 obtain ⟨l, HB⟩ : ∃ l, Hid (ln y m = l) := ⟨_, zh rfl⟩
 rw [HB.out] at C1 HN
 go_enter Tryz.func144, Tryz.ntmps144
 go_wp2_with fail
 with_reducible refine (C1.out _ HL.out).mono ?_
 rintro e w1 ⟨rfl, rfl⟩
 go_wp2_with fail
 all_goals first
  | ((with_reducible refine (zCc y m (min d l) n e _ HL.out HN.out).mono ?_); rintro e w1 ⟨rfl, hb⟩; go_wp2; go_ret2; exact ⟨rfl, hb⟩)
  | (rw [Int.min_eq_right zo] at HN; (with_reducible refine (zCc y m l n e _ HL.out HN.out).mono ?_); rintro e w1 ⟨rfl, hb⟩; go_wp2; go_ret2; exact ⟨rfl, hb⟩)
  | (rw [Int.min_eq_left zo] at HN; (with_reducible refine (zCc y m d n e _ HL.out HN.out).mono ?_); rintro e w1 ⟨rfl, hb⟩; go_wp2; go_ret2; exact ⟨rfl, hb⟩)
theorem same_any (y m d D : Int) (B : Nat) (w : World) (b : Bool) (h0 : w.cell? ⟨B, 0, none⟩ = some (.int .i64 y)) (h1 : w.cell? ⟨B, 1, none⟩ = some (.int .i64 m)) (h2 : w.cell? ⟨B, 2, none⟩ = some (.int .i64 d))
  (hb : decide (d = D) = b) :
  Calls Tryz.prog 147 #[.agg #[y, m, D], .pointer (some ⟨B, 0, none⟩)] w fun e w' => e = .returned (.tuple #[b, (0:Int)]) ∧ Below w w w' := by
 have A : ∀ w : World, Below w w (w.alloc (.cells #[y, m, D] 86)) := fun w => (Below.refl _ _).alloc (Nat.le_refl _) _
 have l0 := zA0 h0
 by_cases hd : d = D
 ·subst hd
  obtain rfl : true = b := by rw [← hb]; simp
  clear hb
  go_enter Tryz.func147, Tryz.ntmps147
  go_wp2
  go_ret2
  exact ⟨rfl, A _⟩
 ·obtain rfl : false = b := by rw [← hb]; simp [hd]
  clear hb
  go_enter Tryz.func147, Tryz.ntmps147
  go_wp2
  go_ret2
  exact ⟨rfl, A _⟩
theorem cutb_any (y m d : Int) (B : Nat) (b : Bool) (w : World) (hL : Lens w) (h0 : w.cell? ⟨B, 0, none⟩ = some (.int .i64 y)) (h1 : w.cell? ⟨B, 1, none⟩ = some (.int .i64 m)) (h2 : w.cell? ⟨B, 2, none⟩ = some (.int .i64 d))
    (hb : decide (d = ln y m) = b) :
    Calls Tryz.prog 146 #[y, m, (31:Int), .func (.func 147) #[] #[.pointer (some ⟨B, 0, none⟩)]] w fun e' w' => e' = .returned (.tuple #[b, (0:Int)]) ∧ Below w w w' := by
  have C1 := zh (zBt y m w hL)
  have b31 := (zAh y m).2
  obtain ⟨l, HB⟩ : ∃ l, Hid (ln y m = l) := ⟨_, zh rfl⟩
  rw [HB.out] at C1 b31 hb
  have C2 := zh (same_any y m d l B w b h0 h1 h2 hb)
  clear hL hb h0 h1 h2
  have t : ¬ l > 31 := zo
  go_enter Tryz.func146, Tryz.ntmps146
  go_wp2_with fail
  with_reducible refine C1.out.mono ?_
  rintro e w1 ⟨rfl, rfl⟩
  go_wp2_with fail
  all_goals first
    | ((with_reducible refine C2.out.mono ?_); rintro e w1 ⟨rfl, hb⟩; go_wp2; go_ret2; exact ⟨rfl, hb⟩)
    | (rw [show min 31 l = l from Int.min_eq_right b31]; (with_reducible refine C2.out.mono ?_); rintro e w1 ⟨rfl, hb⟩; go_wp2; go_ret2; exact ⟨rfl, hb⟩)
    | (have e31 : l = 31 := zo
       subst e31
       (with_reducible refine C2.out.mono ?_); rintro e w1 ⟨rfl, hb⟩; go_wp2; go_ret2; exact ⟨rfl, hb⟩)
theorem zL3 (n y m d : Int) (b : Bool) (w : World) (hL : Lens w) (h : may y m d) (hn : nb y m d = n) (hb : decide (d = ln y m) = b) :
  Calls Tryz.prog 125 #[n] w fun e' w' => e' = .returned b ∧ Below w w w' := by
 have H := (Held.start w).add (f := zAa) hL
 clear hL
 have O1 : Hid (zAf n y m d 0) := zh (Or.inl ⟨h, hn, rfl⟩)
 have HB := zh hb
 clear h hn hb
 go_enter Tryz.func125, Tryz.ntmps125
 go_wp2_with fail
 revert H
 with_reducible refine zG (fun H => zAx n y m d 0 _ (H.lens i0_) O1.out) ?_
 intro w1 H
 go_wp2_with fail
 replace H := (H.triple w1 y m d 86 rfl)
 obtain ⟨cc0, cc1, cc2⟩ := H.cells3 w1
 have lc := H.lt w1 0 y i0_
 revert H
 with_reducible refine zG (fun H => cutb_any y m d w1 b _ (H.lens i6_) cc0 cc1 cc2 HB.out) ?_
 intro w2 H
 go_wp2
 go_ret
 exact ⟨rfl, H.old⟩
theorem zJi (n : Int) (w : World) (hL : Lens w) (h : n < 1 ∨ 3652059 < n) :
  Calls Tryz.prog 125 #[n] w fun e' w' => e' = .returned false ∧ Below w w w' := by
 have H := (Held.start w).add (f := zAa) hL
 clear hL
 have O1 : Hid (zAf n 0 0 0 3) := zh (Or.inr ⟨h, rfl, rfl, rfl, rfl⟩)
 clear h
 go_enter Tryz.func125, Tryz.ntmps125
 go_wp2_with fail
 revert H
 with_reducible refine zG (fun H => zAx n 0 0 0 3 _ (H.lens i0_) O1.out) ?_
 intro w1 H
 go_wp2_with fail
 replace H := (H.triple w1 (0:Int) (0:Int) (0:Int) 86 rfl)
 go_ret
 exact ⟨rfl, H.old⟩
theorem zIi (n : Int) (b : Bool) (w : World) (hL : Lens w) (h : zB6 n b) : Calls Tryz.prog 125 #[n] w fun e' w' => e' = .returned b ∧ Below w w w' := by
 rcases h with ⟨y, m, d, h1, h2, rfl⟩ | ⟨h, rfl⟩
 ·exact zL3 n y m d _ w hL h1 h2 rfl
 ·exact zJi n w hL h
theorem zO2 (n y m d r : Int) (w : World) (hL : Lens w) (h : may y m d) (hn : nb y m d = n) (hr : nb y m (ln y m) = r) :
  Calls Tryz.prog 126 #[n] w fun e' w' => e' = .returned (.tuple #[r, (0:Int)]) ∧ Below w w w' := by
 have H := (Held.start w).add (f := zAa) hL
 clear hL
 have O1 : Hid (zAf n y m d 0) := zh (Or.inl ⟨h, hn, rfl⟩)
 have HB : Hid (nN y m (min 31 (ln y m)) = r ∧ nE y m (min 31 (ln y m)) = 0) := zh (by
  rw [Int.min_eq_right (zAh y m).2, ← hr]; exact zEa (end_may y m d h))
 clear h hn hr
 go_enter Tryz.func126, Tryz.ntmps126
 go_wp2_with fail
 revert H
 with_reducible refine zG (fun H => zAx n y m d 0 _ (H.lens i0_) O1.out) ?_
 intro w1 H
 go_wp2_with fail
 replace H := (H.triple w1 y m d 86 rfl)
 revert H
 with_reducible refine zG (fun H => zQp y m 31 r 0 _ (H.lens i6_) HB.out) ?_
 intro w2 H
 go_wp2
 go_ret2
 exact ⟨rfl, H.old⟩
theorem zq4re {P : Prop} (h : P := by
 go_wp2_with fail
 revert H
 with_reducible refine zG (fun H => zAx n 0 0 0 3 _ (H.lens i0_) O1.out) ?_
 intro w1 H
 go_wp2_with fail
 replace H := (H.triple w1 (0:Int) (0:Int) (0:Int) 86 rfl)
 go_ret2
 exact ⟨rfl, H.old⟩) : P := h
theorem zKw (n : Int) (w : World) (hL : Lens w) (h : n < 1 ∨ 3652059 < n) :
  Calls Tryz.prog 126 #[n] w fun e' w' => e' = .returned (.tuple #[(0:Int), (3:Int)]) ∧ Below w w w' := by
 have H := (Held.start w).add (f := zAa) hL
 clear hL
 have O1 : Hid (zAf n 0 0 0 3) := zh (Or.inr ⟨h, rfl, rfl, rfl, rfl⟩)
 clear h
 go_enter Tryz.func126, Tryz.ntmps126
 exact zq4re
theorem end_any (n r e : Int) (w : World) (hL : Lens w) (h : EndIs n r e) : Calls Tryz.prog 126 #[n] w fun e' w' => e' = .returned (.tuple #[r, e]) ∧ Below w w w' := by
 rcases h with ⟨y, m, d, h1, h2, rfl, rfl⟩ | ⟨h, rfl, rfl⟩
 ·exact zO2 n y m d _ w hL h1 h2 rfl
 ·exact zKw n w hL h
theorem zKd (n k y m d Y M r : Int) (w : World) (hL : Lens w) (h : may y m d) (hn : nb y m d = n) (h1 : 1 ≤ Y) (h2 : Y ≤ 9999) (h3 : 1 ≤ M) (h4 : M ≤ 12) (hM : 12 * Y + M = 12 * y + m + k) (hr : nb Y M (min d (ln Y M)) = r) :
  Calls Tryz.prog 124 #[n, k] w fun e' w' => e' = .returned (.tuple #[r, (0:Int)]) ∧ Below w w w' := by
 have H := (Held.start w).add (f := zAa) hL
 clear hL
 have O1 : Hid (zAf n y m d 0) := zh (Or.inl ⟨h, hn, rfl⟩)
 have HB : Hid (nN Y M (min d (ln Y M)) = r ∧ nE Y M (min d (ln Y M)) = 0) := zh (by
  rw [← hr]; have := zQu false y m d Y M h h1 h2 h3 h4; unfold dm at this; simp only [Bool.false_eq_true, false_and, if_false] at this; exact zEa this)
 have C1 := zh (fun v => on_in y m d k Y M v h h1 h2 h3 h4 hM)
 clear h hn hr hM
 go_enter Tryz.func124, Tryz.ntmps124
 go_wp2_with fail
 revert H
 with_reducible refine zG (fun H => zAx n y m d 0 _ (H.lens i0_) O1.out) ?_
 intro w1 H
 go_wp2_with fail
 replace H := (H.triple w1 y m d 86 rfl)
 revert H
 with_reducible refine zG (fun _ => C1.out _) ?_
 intro w2 H
 obtain ⟨cc0, cc1, cc2⟩ := H.cells3 w1
 have lc := H.lt w1 0 y i0_
 go_wp2_with fail
 clear cc0 cc1 cc2 lc
 revert H
 with_reducible refine zG (fun H => zQp Y M d r 0 _ (H.lens i6_) HB.out) ?_
 intro w3 H
 go_wp2
 go_ret2
 exact ⟨rfl, H.old⟩
theorem zIt (n k y m d : Int) (w : World) (hL : Lens w) (h : may y m d) (hn : nb y m d = n) (hk : 12 * y + m + k < 13 ∨ 120000 < 12 * y + m + k) :
  Calls Tryz.prog 124 #[n, k] w fun e' w' => e' = .returned (.tuple #[(0:Int), (3:Int)]) ∧ Below w w w' := by
 have H := (Held.start w).add (f := zAa) hL
 clear hL
 have O1 : Hid (zAf n y m d 0) := zh (Or.inl ⟨h, hn, rfl⟩)
 have C1 := zh (fun v => on_far y m d k v h hk)
 clear h hn hk
 go_enter Tryz.func124, Tryz.ntmps124
 go_wp2_with fail
 revert H
 with_reducible refine zG (fun H => zAx n y m d 0 _ (H.lens i0_) O1.out) ?_
 intro w1 H
 go_wp2_with fail
 replace H := (H.triple w1 y m d 86 rfl)
 revert H
 with_reducible refine zG (fun _ => C1.out _) ?_
 intro w2 H
 go_wp2
 go_ret2
 exact ⟨rfl, H.old⟩
theorem zIu (n k : Int) (w : World) (hL : Lens w) (h : n < 1 ∨ 3652059 < n) :
  Calls Tryz.prog 124 #[n, k] w fun e' w' => e' = .returned (.tuple #[(0:Int), (3:Int)]) ∧ Below w w w' := by
 have H := (Held.start w).add (f := zAa) hL
 clear hL
 have O1 : Hid (zAf n 0 0 0 3) := zh (Or.inr ⟨h, rfl, rfl, rfl, rfl⟩)
 clear h
 go_enter Tryz.func124, Tryz.ntmps124
 exact zq4re
theorem zDj (n k r e : Int) (w : World) (hL : Lens w) (h : zD3 n k false r e) : Calls Tryz.prog 124 #[n, k] w fun e' w' => e' = .returned (.tuple #[r, e]) ∧ Below w w w' := by
 rcases h with ⟨y, m, d, Y, M, h, hn, h1, h2, h3, h4, hM, rfl, rfl⟩ | ⟨⟨y, m, d, h, hn, hk⟩, rfl, rfl⟩ | ⟨h, rfl, rfl⟩
 ·exact zKd n k y m d Y M _ w hL h hn h1 h2 h3 h4 hM (by unfold dm; simp)
 ·exact zIt n k y m d w hL h hn hk
 ·exact zIu n k w hL h
theorem zJn (n k y m Y M r : Int) (w : World) (hL : Lens w) (h : may y m (ln y m)) (hn : nb y m (ln y m) = n) (h1 : 1 ≤ Y) (h2 : Y ≤ 9999) (h3 : 1 ≤ M) (h4 : M ≤ 12) (hM : 12 * Y + M = 12 * y + m + k) (hr : nb Y M (ln Y M) = r) :
  Calls Tryz.prog 110 #[n, k, true] w fun e' w' => e' = .returned (.tuple #[r, (0:Int)]) ∧ Below w w w' := by
 have H := (Held.start w).add (f := zAa) hL
 clear hL
 obtain ⟨s, hs⟩ : ∃ s, nb Y M (min (ln y m) (ln Y M)) = s := ⟨_, rfl⟩
 have hD := zQu false y m (ln y m) Y M h h1 h2 h3 h4
 have e : dm false y m (ln y m) Y M = min (ln y m) (ln Y M) := by unfold dm; simp
 rw [e] at hD
 have M1 : Hid (zD3 n k false s 0) := zh (zIl y m (ln y m) Y M _ h hn h1 h2 h3 h4 hM e hs)
 have L1 : Hid (zB6 n true) := zh (zAy y m (ln y m) h hn zs)
 have E1 : Hid (EndIs s r 0) := zh (end_in Y M _ hD hs hr)
 clear h hn hM hr hs hD e
 go_enter Tryz.func110, Tryz.ntmps110
 go_wp2_with fail
 revert H
 with_reducible refine zG (fun H => zDj n k s 0 _ (H.lens i0_) M1.out) ?_
 intro w1 H
 go_wp2_with fail
 revert H
 with_reducible refine zG (fun H => zIi n true _ (H.lens i0_) L1.out) ?_
 intro w2 H
 go_wp2_with fail
 revert H
 with_reducible refine zG (fun H => end_any s r 0 _ (H.lens i0_) E1.out) ?_
 intro w3 H
 go_wp2
 go_ret2
 exact ⟨rfl, H.old⟩
theorem zJo (n k r : Int) (w : World) (hL : Lens w) (hm : zD3 n k false r 0) (hl : zB6 n false) :
  Calls Tryz.prog 110 #[n, k, true] w fun e' w' => e' = .returned (.tuple #[r, (0:Int)]) ∧ Below w w w' := by
 have H := (Held.start w).add (f := zAa) hL
 clear hL
 have M1 := zh hm
 have L1 := zh hl
 clear hm hl
 go_enter Tryz.func110, Tryz.ntmps110
 go_wp2_with fail
 revert H
 with_reducible refine zG (fun H => zDj n k r 0 _ (H.lens i0_) M1.out) ?_
 intro w1 H
 go_wp2_with fail
 revert H
 with_reducible refine zG (fun H => zIi n false _ (H.lens i0_) L1.out) ?_
 intro w2 H
 go_wp2
 go_ret2
 exact ⟨rfl, H.old⟩
theorem zqmvr {P : Prop} (h : P := by
 go_enter Tryz.func110, Tryz.ntmps110
 go_wp2_with fail
 revert H
 with_reducible refine zG (fun H => zDj n k r 3 _ (H.lens i0_) M1.out) ?_
 intro w1 H
 go_wp2
 go_ret2
 exact ⟨rfl, H.old⟩) : P := h
theorem zHa (n k r e : Int) (w : World) (hL : Lens w) (hm : zD3 n k false r e) (he : e = 0 ∨ e = 3) :
  Calls Tryz.prog 110 #[n, k, false] w fun e' w' => e' = .returned (.tuple #[r, e]) ∧ Below w w w' := by
 have H := (Held.start w).add (f := zAa) hL
 clear hL
 have M1 := zh hm
 clear hm
 rcases he with rfl | rfl
 ·go_enter Tryz.func110, Tryz.ntmps110
  go_wp2_with fail
  revert H
  with_reducible refine zG (fun H => zDj n k r 0 _ (H.lens i0_) M1.out) ?_
  intro w1 H
  go_wp2
  go_ret2
  exact ⟨rfl, H.old⟩
 ·exact zqmvr
theorem zFq (n k r : Int) (b : Bool) (w : World) (hL : Lens w) (hm : zD3 n k false r 3) :
  Calls Tryz.prog 110 #[n, k, b] w fun e' w' => e' = .returned (.tuple #[r, (3:Int)]) ∧ Below w w w' := by
 have H := (Held.start w).add (f := zAa) hL
 clear hL
 have M1 := zh hm
 clear hm
 exact zqmvr
theorem move_any (n k r e : Int) (b : Bool) (w : World) (hL : Lens w) (h : zD3 n k b r e) : Calls Tryz.prog 110 #[n, k, b] w fun e' w' => e' = .returned (.tuple #[r, e]) ∧ Below w w w' := by
 rcases h with ⟨y, m, d, Y, M, h, hn, h1, h2, h3, h4, hM, hr, rfl⟩ | ⟨⟨y, m, d, h, hn, hk⟩, rfl, rfl⟩ | ⟨h, rfl, rfl⟩
 ·cases b
  ·exact zHa n k r 0 w hL (zIl y m d Y M _ h hn h1 h2 h3 h4 hM rfl hr) (Or.inl rfl)
  ·by_cases hd : d = ln y m
   ·subst hd
    exact zJn n k y m Y M r w hL h hn h1 h2 h3 h4 hM (by unfold dm at hr; simpa using hr)
   ·refine zJo n k r w hL (zIl y m d Y M _ h hn h1 h2 h3 h4 hM rfl ?_) (zAy y m d h hn (by simp [hd]))
    unfold dm at hr ⊢; simpa [hd] using hr
 ·exact zFq n k 0 b w hL (zN5 y m d h hn hk)
 ·exact zFq n k 0 b w hL (move_out h)
theorem Held.quad {w W : World} {fs : List Fact} (h : Held w fs W) (B : Nat) (u v x z : Value) (t : TypeId) (hB : W.heap.size = B) :
  Held w (.cell B 0 u :: .cell B 1 v :: .cell B 2 x :: .cell B 3 z :: .free B 0 :: .free B 1 :: .free B 2 :: .free B 3 :: fs) (W.alloc (.cells #[u, v, x, z] t)) := by
 subst hB
 exact ((((((((h.alloc _).add (f := .free W.heap.size 3) ⟨zs, by simp [go_sem]⟩).add (f := .free W.heap.size 2) ⟨zs, by simp [go_sem]⟩).add (f := .free W.heap.size 1) ⟨zs, by simp [go_sem]⟩).add (f := .free W.heap.size 0) ⟨zs, by simp [go_sem]⟩).add (f := .cell W.heap.size 3 z) zf).add (f := .cell W.heap.size 2 x) zf).add (f := .cell W.heap.size 1 v) zf).add (f := .cell W.heap.size 0 u) zf
theorem zGs (n d : Int) (w : World) (n0 : 0 ≤ n) (n1 : n < 9223372036854775808) (d0 : 0 < d) (d1 : d < 9223372036854775808) :
  Calls Tryz.prog 158 #[n, d] w fun e w' => e = .returned (.tuple #[.agg #[(rN n d), (rD n d)], (rE n d)]) ∧ Below w w w' := by
 have H := Held.start w
 obtain ⟨x, HX⟩ : ∃ x, Hid (mN n d = x) := ⟨_, zh rfl⟩
 obtain ⟨y, HY⟩ : ∃ y, Hid (mD n d = y) := ⟨_, zh rfl⟩
 have bx := zC1 n d n0
 have b2 := m_le n d n0 zo
 have b3 := zE1 n d d0
 rw [HX.out] at bx
 rw [HY.out] at b3
 rw [HX.out, HY.out] at b2
 obtain ⟨b4, b5⟩ := b2
 obtain ⟨rn, RN⟩ : ∃ x, Hid (rN n d = x) := ⟨_, zh rfl⟩
 obtain ⟨rd, RD⟩ : ∃ x, Hid (rD n d = x) := ⟨_, zh rfl⟩
 obtain ⟨re, RE⟩ : ∃ x, Hid (rE n d = x) := ⟨_, zh rfl⟩
 have hx := zh (show wn 0 x = mN n d by rw [zEf, HX.out])
 have hy := zh (show wn 0 y = mD n d by rw [zEf, HY.out])
 rw [RN.out, RD.out, RE.out]
 have t1 : decide (n < 0) = false := zx
 have t2 : decide (d < 0) = false := zx
 have t3 : (d == 0) = false := beq_eq_false_iff_ne.2 zo
 have wn : IntKind.u64.wrap n = n := IntWalk.u64_in _ zo
 have wd : IntKind.u64.wrap d = d := IntWalk.u64_in _ zo
 go_enter Tryz.func158, Tryz.ntmps158
 go_wp2_with fail
 replace H := (H.pair w (0:Int) (0:Int) 48 rfl)
 with_reducible refine (zJl n d _ zo zo zo zo (Or.inr d0)).mono ?_
 rw [HX.out, HY.out]
 rintro e w1 ⟨rfl, hb⟩
 replace H := H.below hb
 clear hb
 go_wp2_with fail
 revert H
 with_reducible refine zG (fun _ => zJq x _) ?_
 intro w2 H
 go_wp2_with fail
 revert H
 with_reducible refine zG (fun _ => zJq y _) ?_
 intro w3 H
 go_wp2_with fail
 with_reducible refine (zR2 0 x 0 y n d _ zo zo zo zo zo zo hx.out hy.out).mono ?_
 rw [RN.out, RD.out, RE.out]
 rintro e w4 ⟨rfl, hb⟩
 replace H := H.below hb
 clear hb
 obtain ⟨cr0, cr1⟩ := H.cells2 w
 have lr := H.lt w 0 (0:Int) i0_
 obtain ⟨fr0, fr1⟩ := H.frozens2 w
 go_wp2_with fail
 exact bodyPost_ret (v := .tuple #[.agg #[rn, rd], re]) (by simp [results, Tryz.results158, go_sem, cr0, cr1]) rfl ⟨rfl, (H.old.setCell zw _).setCell zw _⟩
end Go.Proofs.YtpfgdfpaoldhcaaGreatDoor
