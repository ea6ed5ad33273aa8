/- Several texts in one: Quot, RefVal, Fit, RKit, MoCut, MoMonths, Quad, New. -/
import Derived.Test.YtpfgdfpaoldhcaaGreatDoorSoAE
import Derived.Test.YtpfgdfpaoldhcaaGreatDoorSoAD
import Derived.Deep.RegionLaw
import Derived.Deep.AppendLies
set_option maxHeartbeats 8000000
set_option maxRecDepth 100000
set_option linter.unusedVariables false
set_option linter.unusedSimpArgs false
namespace Go.Proofs.YtpfgdfpaoldhcaaGreatDoor
open Go.RowKit
structure Dividing (w : World) (B R n : Nat) (va vb : Value) (da : List Int) (y : Int) (mb : Nat) (q : List Int) (vr : Value) (rn : Int) (rm : Nat) (W : World) : Prop where
 a : Big W va da
 b : BigN W vb y mb
 own : W.ownsRow (B + 4) 3 1 (.slice (some ⟨B + 4, 0, none⟩) n n) n (q.map (Value.int .i64))
 len : q.length = n
 ra : W.cell? ⟨B, 0, none⟩ = some va
 rb : W.cell? ⟨B + 1, 0, none⟩ = some vb
 r1 : W.cell? ⟨B + 2, 0, none⟩ = some (.slice none 0 0)
 f1 : W.frozen? ⟨B + 2, 0, none⟩ = false
 r2 : W.cell? ⟨B + 3, 0, none⟩ = some (.slice none 0 0)
 f2 : W.frozen? ⟨B + 3, 0, none⟩ = false
 rr : W.cell? ⟨R, 0, none⟩ = some vr
 fr : W.frozen? ⟨R, 0, none⟩ = false
 nr : BigN W vr rn rm
 vf : ∀ g, vr.ownBlock = some g → R < g
 fa : ∀ g, va.ownBlock = some g → g < B
 fb : ∀ g, vb.ownBlock = some g → g < B
 hR : B + 5 ≤ R
 old : Below B w W
 size : R < W.heap.size
section
variable {w : World} {B R n : Nat} {va vb : Value} {da : List Int} {y : Int} {mb : Nat} {q : List Int} {vr : Value} {rn : Int} {rm : Nat} {W W' : World}
theorem Dividing.below (h : Dividing w B R n va vb da y mb q vr rn rm W) (hb : Below W.heap.size W W') : Dividing w B R n va vb da y mb q vr rn rm W' :=
 ⟨h.a.below hb, h.b.below hb, zDs h.own hb, h.len, keep hb (zA0 h.ra) h.ra, keep hb (zA0 h.rb) h.rb, keep hb (zA0 h.r1) h.r1, zA5 hb (zA0 h.r1) h.f1, keep hb (zA0 h.r2) h.r2, zA5 hb (zA0 h.r2) h.f2,
  keep hb (zA0 h.rr) h.rr, zA5 hb (zA0 h.rr) h.fr, h.nr.below hb, h.vf, h.fa, h.fb, h.hR, h.old.trans (hb.mono (by have := h.size; have := h.hR; omega)), Nat.lt_of_lt_of_le h.size hb.size⟩
theorem Dividing.drew (h : Dividing w B R n va vb da y mb q vr rn rm W) : Dividing w B R n va vb da y mb q vr rn rm W.drew :=
 ⟨h.a, h.b, h.own, h.len, h.ra, h.rb, h.r1, h.f1, h.r2, h.f2, h.rr, h.fr, h.nr, h.vf, h.fa, h.fb, h.hR, h.old.drew, h.size⟩
end
section
variable {w : World} {B R n : Nat} {va vb : Value} {da : List Int} {y : Int} {mb : Nat} {q : List Int} {vr : Value} {rn : Int} {rm : Nat} {W : World}
end
structure Ended (w : World) (B R n : Nat) (q : List Int) (u1 u2 vr : Value) (r : Int) (m : Nat) (W : World) : Prop where
 own : W.ownsRow (B + 4) 3 1 (.slice (some ⟨B + 4, 0, none⟩) n n) n (q.map (Value.int .i64))
 len : q.length = n
 c1 : W.cell? ⟨B + 2, 0, none⟩ = some u1
 f1 : W.frozen? ⟨B + 2, 0, none⟩ = false
 c2 : W.cell? ⟨B + 3, 0, none⟩ = some u2
 f2 : W.frozen? ⟨B + 3, 0, none⟩ = false
 cr : W.cell? ⟨R, 0, none⟩ = some vr
 nr : BigN W vr r m
 vf : ∀ g, vr.ownBlock = some g → B + 4 < g
 hR : B + 5 ≤ R
 old : Below B w W
 size : B + 4 < W.heap.size
section
variable {w : World} {B R n : Nat} {q : List Int} {u1 u2 vr : Value} {r : Int} {m : Nat} {W W' : World}
theorem Ended.below (h : Ended w B R n q u1 u2 vr r m W) (hb : Below W.heap.size W W') : Ended w B R n q u1 u2 vr r m W' :=
 ⟨zDs h.own hb, h.len, keep hb (zA0 h.c1) h.c1, zA5 hb (zA0 h.c1) h.f1, keep hb (zA0 h.c2) h.c2, zA5 hb (zA0 h.c2) h.f2, keep hb (zA0 h.cr) h.cr, h.nr.below hb, h.vf, h.hR, h.old.trans (hb.mono (by have := h.size; omega)), Nat.lt_of_lt_of_le h.size hb.size⟩
end
end Go.Proofs.YtpfgdfpaoldhcaaGreatDoor
namespace Go.Proofs.YtpfgdfpaoldhcaaGreatDoor
open Go.RowKit
theorem BigN.none {W : World} {a : Option Addr} {k c m : Nat} (h : BigN W (.slice a k c) 0 m) : k = 0 := by
 obtain ⟨ds, h1, h2, h3, h4, h5⟩ := h
 obtain ⟨aa, ac, e⟩ := h1.slice
 rw [h5 h3] at e
 cases e; rfl
theorem BigN.some {W : World} {a : Option Addr} {k c m : Nat} {n : Int} (h : BigN W (.slice a k c) n m) (hn : 0 < n) : 0 < k := by
 obtain ⟨ds, h1, h2, h3, h4, h5⟩ := h
 obtain ⟨aa, ac, e⟩ := h1.slice
 cases e
 rcases Nat.eq_zero_or_pos ds.length with hz | hz
 ·have := List.eq_nil_of_length_eq_zero hz
  subst this
  rw [zEf] at h3; omega
 ·exact hz
structure Turning (w W : World) (B m : Nat) (s1 s2 : Value) (p q : Int) : Prop where
 ca : W.cell? ⟨B, 0, none⟩ = some s1
 fa : W.frozen? ⟨B, 0, none⟩ = false
 cb : W.cell? ⟨B + 1, 0, none⟩ = some s2
 fb : W.frozen? ⟨B + 1, 0, none⟩ = false
 cr : W.cell? ⟨B + 2, 0, none⟩ = some (.slice none 0 0)
 fr : W.frozen? ⟨B + 2, 0, none⟩ = false
 na : BigN W s1 p m
 nb : BigN W s2 q m
 oa : ∀ i, s1.ownBlock = some i → i < B ∨ B + 3 ≤ i
 ob : ∀ i, s2.ownBlock = some i → i < B ∨ B + 3 ≤ i
 old : Below B w W
 size : B + 3 ≤ W.heap.size
theorem Turning.below {w W W' : World} {B m : Nat} {s1 s2 : Value} {p q : Int} (h : Turning w W B m s1 s2 p q) (hb : Below W.heap.size W W') : Turning w W' B m s1 s2 p q :=
 ⟨keep hb (zA0 h.ca) h.ca, zA5 hb (zA0 h.ca) h.fa, keep hb (zA0 h.cb) h.cb, zA5 hb (zA0 h.cb) h.fb, keep hb (zA0 h.cr) h.cr, zA5 hb (zA0 h.cr) h.fr, h.na.below hb, h.nb.below hb, h.oa, h.ob, h.old.trans (hb.mono (by have := h.size; omega)), Nat.le_trans h.size hb.size⟩
theorem Turning.turn {w W : World} {B m : Nat} {s1 s2 : Value} {p q : Int} (h : Turning w W B m s1 s2 p q) {s4 : Value} {r : Int} (hn : BigN W s4 r m) (ho : ∀ i, s4.ownBlock = some i → B + 3 ≤ i) :
  Turning w ((W.setCell ⟨B, 0, none⟩ s2).setCell ⟨B + 1, 0, none⟩ s4) B m s2 s4 q r := by
 have far : ∀ (x : Addr), x.block ≠ B → x.block ≠ B + 1 → ((W.setCell ⟨B, 0, none⟩ s2).setCell ⟨B + 1, 0, none⟩ s4).cell? x = W.cell? x := fun x h1 h2 =>
  (World.cell?_setCell_far _ _ _ _ (Ne.symm h2)).trans (World.cell?_setCell_far _ _ _ _ (Ne.symm h1))
 have nn : ∀ {v : Value} {n : Int}, BigN W v n m → (∀ i, v.ownBlock = some i → i < B ∨ B + 3 ≤ i) → BigN ((W.setCell ⟨B, 0, none⟩ s2).setCell ⟨B + 1, 0, none⟩ s4) v n m := fun hv hi =>
  (hv.setCell (p := ⟨B, 0, none⟩) (fun e => by have := hi _ e; simp at this; omega) s2).setCell (p := ⟨B + 1, 0, none⟩) (fun e => by have := hi _ e; simp at this; omega) s4
 refine ⟨?_, by rw [World.frozen?_setCell, World.frozen?_setCell]; exact h.fa, ?_, by rw [World.frozen?_setCell, World.frozen?_setCell]; exact h.fb, (far _ (by simp) (by simp)).trans h.cr, by rw [World.frozen?_setCell, World.frozen?_setCell]; exact h.fr,
  nn h.nb h.ob, nn hn (fun i hi => Or.inr (ho i hi)), h.ob, fun i hi => Or.inr (ho i hi), (h.old.setCell (by simp) _).setCell (by simp) _, by simpa using h.size⟩
 ·exact (World.cell?_setCell_far _ _ _ _ (by simp)).trans (World.cell?_setCell_same W _ _ h.ca)
 ·exact World.cell?_setCell_same _ _ _ ((World.cell?_setCell_far _ _ _ _ (by simp)).trans h.cb)
theorem zDh (n : Int) : wn 0 n = n := by unfold wn; omega
theorem fit_ok (nh nl dh dl N D : Int) (w : World) (k1 : 0 ≤ nl) (k2 : nl < 18446744073709551616) (k3 : 0 ≤ dl) (k4 : dl < 18446744073709551616) (hN : wn nh nl = N) (hD : wn dh dl = D) (hh : 0 ≤ nh) (hh2 : 0 ≤ dh) (hn : N ≤ 4611686018427387904) (hd : D ≤ 4611686018427387904) :
  Calls Tryz.prog 182 #[.agg #[.int .u64 nh, .int .u64 nl], .agg #[.int .u64 dh, .int .u64 dl]] w fun e w' => e = .returned (.tuple #[.agg #[.int .i64 N, .int .i64 D], .int .i64 0]) ∧ Below w.heap.size w w' := by
 have H := Held.start w
 have HN := Lib.hid hN
 have HD := Lib.hid hD
 obtain ⟨cN, hcN⟩ : ∃ c, Hid (cmpI N 4611686018427387904 = c) := ⟨_, Lib.hid rfl⟩
 obtain ⟨cD, hcD⟩ : ∃ c, Hid (cmpI D 4611686018427387904 = c) := ⟨_, Lib.hid rfl⟩
 have tN : decide (0 < cN) = false := by rw [← hcN.out]; exact zJ7 hn
 have tD : decide (0 < cD) = false := by rw [← hcD.out]; exact zJ7 hd
 have eN : nl = N := by rw [← hN] at hn ⊢; unfold wn at *; omega
 have eD : dl = D := by rw [← hD] at hd ⊢; unfold wn at *; omega
 rw [← eN, ← eD]
 have wN : IntKind.i64.wrap nl = nl := IntWalk.i64_in _ (by omega)
 have wD : IntKind.i64.wrap dl = dl := IntWalk.i64_in _ (by omega)
 clear eN eD
 clear hN hD
 go_enter Tryz.func182, Tryz.ntmps182
 go_wp2_with fail
 replace H := (((H.pair (w.heap.size) (.int .u64 nh) (.int .u64 nl) 226 rfl).pair (w.heap.size + 1) (.int .u64 dh) (.int .u64 dl) 226 (by simp)).pair (w.heap.size + 2) (.int .i64 0) (.int .i64 0) 48 (by simp))
 (with_reducible refine (zI3 4611686018427387904 _).mono ?_)
 rintro e w1 ⟨rfl, hb⟩
 replace H := H.below hb
 clear hb
 have cn0 := H.cell (w.heap.size) 0 (.int .u64 nh) i8_
 have cn1 := H.cell (w.heap.size) 1 (.int .u64 nl) i9_
 have ln := H.lt (w.heap.size) 0 (.int .u64 nh) i8_
 go_wp2_with fail
 clear cn0 cn1 ln
 replace H := (H.pair (w1.heap.size) (.int .u64 0) (.int .u64 4611686018427387904) 226 rfl)
 (with_reducible refine (zF5 nh nl 0 4611686018427387904 _ k1 k2 (by omega) (by omega)).mono ?_)
 rw [HN.out, zDh, hcN.out]
 rintro e w2 ⟨rfl, hb⟩
 replace H := H.below hb
 clear hb
 have cd0 := H.cell (w.heap.size + 1) 0 (.int .u64 dh) i8_
 have cd1 := H.cell (w.heap.size + 1) 1 (.int .u64 dl) i9_
 have ld := H.lt (w.heap.size + 1) 0 (.int .u64 dh) i8_
 have cm0 := H.cell (w1.heap.size) 0 (.int .u64 0) i0_
 have cm1 := H.cell (w1.heap.size) 1 (.int .u64 4611686018427387904) i1_
 have lm := H.lt (w1.heap.size) 0 (.int .u64 0) i0_
 go_wp2_with fail
 clear cd0 cd1 ld cm0 cm1 lm
 (with_reducible refine (zF5 dh dl 0 4611686018427387904 _ k3 k4 (by omega) (by omega)).mono ?_)
 rw [HD.out, zDh, hcD.out]
 rintro e w3 ⟨rfl, hb⟩
 replace H := H.below hb
 clear hb
 have cn0 := H.cell (w.heap.size) 0 (.int .u64 nh) i12_
 have cn1 := H.cell (w.heap.size) 1 (.int .u64 nl) i13_
 have ln := H.lt (w.heap.size) 0 (.int .u64 nh) i12_
 have cd0 := H.cell (w.heap.size + 1) 0 (.int .u64 dh) i8_
 have cd1 := H.cell (w.heap.size + 1) 1 (.int .u64 dl) i9_
 have ld := H.lt (w.heap.size + 1) 0 (.int .u64 dh) i8_
 have cr0 := H.cell (w.heap.size + 2) 0 (.int .i64 0) i4_
 have cr1 := H.cell (w.heap.size + 2) 1 (.int .i64 0) i5_
 have lr := H.lt (w.heap.size + 2) 0 (.int .i64 0) i4_
 have fr0 := H.frozen (w.heap.size + 2) 0 i6_
 have fr1 := H.frozen (w.heap.size + 2) 1 i7_
 go_wp2_with fail
 exact bodyPost_ret (v := .tuple #[.agg #[.int .i64 nl, .int .i64 dl], .int .i64 0]) (by simp [results, Tryz.results182, go_sem, cr0, cr1]) rfl ⟨rfl, (H.old.setCell (by simp <;> omega) _).setCell (by simp <;> omega) _⟩
theorem zOy (nh nl dh dl N D : Int) (w : World) (k1 : 0 ≤ nl) (k2 : nl < 18446744073709551616) (k3 : 0 ≤ dl) (k4 : dl < 18446744073709551616) (hN : wn nh nl = N) (hD : wn dh dl = D) (hn : 4611686018427387904 < N) :
  Calls Tryz.prog 182 #[.agg #[.int .u64 nh, .int .u64 nl], .agg #[.int .u64 dh, .int .u64 dl]] w fun e w' => e = .returned (.tuple #[.agg #[.int .i64 0, .int .i64 0], .int .i64 6]) ∧ Below w.heap.size w w' := by
 have H := Held.start w
 have HN := Lib.hid hN
 have HD := Lib.hid hD
 obtain ⟨cN, hcN⟩ : ∃ c, Hid (cmpI N 4611686018427387904 = c) := ⟨_, Lib.hid rfl⟩
 obtain ⟨cD, hcD⟩ : ∃ c, Hid (cmpI D 4611686018427387904 = c) := ⟨_, Lib.hid rfl⟩
 have tN : decide (0 < cN) = true := by rw [← hcN.out, zJ6 hn]; rfl
 clear hN hD
 go_enter Tryz.func182, Tryz.ntmps182
 go_wp2_with fail
 replace H := (((H.pair (w.heap.size) (.int .u64 nh) (.int .u64 nl) 226 rfl).pair (w.heap.size + 1) (.int .u64 dh) (.int .u64 dl) 226 (by simp)).pair (w.heap.size + 2) (.int .i64 0) (.int .i64 0) 48 (by simp))
 (with_reducible refine (zI3 4611686018427387904 _).mono ?_)
 rintro e w1 ⟨rfl, hb⟩
 replace H := H.below hb
 clear hb
 have cn0 := H.cell (w.heap.size) 0 (.int .u64 nh) i8_
 have cn1 := H.cell (w.heap.size) 1 (.int .u64 nl) i9_
 have ln := H.lt (w.heap.size) 0 (.int .u64 nh) i8_
 go_wp2_with fail
 clear cn0 cn1 ln
 replace H := (H.pair (w1.heap.size) (.int .u64 0) (.int .u64 4611686018427387904) 226 rfl)
 (with_reducible refine (zF5 nh nl 0 4611686018427387904 _ k1 k2 (by omega) (by omega)).mono ?_)
 rw [HN.out, zDh, hcN.out]
 rintro e w2 ⟨rfl, hb⟩
 replace H := H.below hb
 clear hb
 have cn0 := H.cell (w.heap.size) 0 (.int .u64 nh) i12_
 have cn1 := H.cell (w.heap.size) 1 (.int .u64 nl) i13_
 have ln := H.lt (w.heap.size) 0 (.int .u64 nh) i12_
 have cd0 := H.cell (w.heap.size + 1) 0 (.int .u64 dh) i8_
 have cd1 := H.cell (w.heap.size + 1) 1 (.int .u64 dl) i9_
 have ld := H.lt (w.heap.size + 1) 0 (.int .u64 dh) i8_
 have cr0 := H.cell (w.heap.size + 2) 0 (.int .i64 0) i4_
 have cr1 := H.cell (w.heap.size + 2) 1 (.int .i64 0) i5_
 have lr := H.lt (w.heap.size + 2) 0 (.int .i64 0) i4_
 have fr0 := H.frozen (w.heap.size + 2) 0 i6_
 have fr1 := H.frozen (w.heap.size + 2) 1 i7_
 go_wp2_with fail
 exact bodyPost_ret (v := .tuple #[.agg #[.int .i64 0, .int .i64 0], .int .i64 6]) (by simp [results, Tryz.results182, go_sem, cr0, cr1]) rfl ⟨rfl, (H.old.setCell (by simp <;> omega) _).setCell (by simp <;> omega) _⟩
theorem zOz (nh nl dh dl N D : Int) (w : World) (k1 : 0 ≤ nl) (k2 : nl < 18446744073709551616) (k3 : 0 ≤ dl) (k4 : dl < 18446744073709551616) (hN : wn nh nl = N) (hD : wn dh dl = D) (hn : N ≤ 4611686018427387904) (hd : 4611686018427387904 < D) :
  Calls Tryz.prog 182 #[.agg #[.int .u64 nh, .int .u64 nl], .agg #[.int .u64 dh, .int .u64 dl]] w fun e w' => e = .returned (.tuple #[.agg #[.int .i64 0, .int .i64 0], .int .i64 6]) ∧ Below w.heap.size w w' := by
 have H := Held.start w
 have HN := Lib.hid hN
 have HD := Lib.hid hD
 obtain ⟨cN, hcN⟩ : ∃ c, Hid (cmpI N 4611686018427387904 = c) := ⟨_, Lib.hid rfl⟩
 obtain ⟨cD, hcD⟩ : ∃ c, Hid (cmpI D 4611686018427387904 = c) := ⟨_, Lib.hid rfl⟩
 have tN : decide (0 < cN) = false := by rw [← hcN.out]; exact zJ7 hn
 have tD : decide (0 < cD) = true := by rw [← hcD.out, zJ6 hd]; rfl
 clear hN hD
 go_enter Tryz.func182, Tryz.ntmps182
 go_wp2_with fail
 replace H := (((H.pair (w.heap.size) (.int .u64 nh) (.int .u64 nl) 226 rfl).pair (w.heap.size + 1) (.int .u64 dh) (.int .u64 dl) 226 (by simp)).pair (w.heap.size + 2) (.int .i64 0) (.int .i64 0) 48 (by simp))
 (with_reducible refine (zI3 4611686018427387904 _).mono ?_)
 rintro e w1 ⟨rfl, hb⟩
 replace H := H.below hb
 clear hb
 have cn0 := H.cell (w.heap.size) 0 (.int .u64 nh) i8_
 have cn1 := H.cell (w.heap.size) 1 (.int .u64 nl) i9_
 have ln := H.lt (w.heap.size) 0 (.int .u64 nh) i8_
 go_wp2_with fail
 clear cn0 cn1 ln
 replace H := (H.pair (w1.heap.size) (.int .u64 0) (.int .u64 4611686018427387904) 226 rfl)
 (with_reducible refine (zF5 nh nl 0 4611686018427387904 _ k1 k2 (by omega) (by omega)).mono ?_)
 rw [HN.out, zDh, hcN.out]
 rintro e w2 ⟨rfl, hb⟩
 replace H := H.below hb
 clear hb
 have cd0 := H.cell (w.heap.size + 1) 0 (.int .u64 dh) i8_
 have cd1 := H.cell (w.heap.size + 1) 1 (.int .u64 dl) i9_
 have ld := H.lt (w.heap.size + 1) 0 (.int .u64 dh) i8_
 have cm0 := H.cell (w1.heap.size) 0 (.int .u64 0) i0_
 have cm1 := H.cell (w1.heap.size) 1 (.int .u64 4611686018427387904) i1_
 have lm := H.lt (w1.heap.size) 0 (.int .u64 0) i0_
 go_wp2_with fail
 clear cd0 cd1 ld cm0 cm1 lm
 (with_reducible refine (zF5 dh dl 0 4611686018427387904 _ k3 k4 (by omega) (by omega)).mono ?_)
 rw [HD.out, zDh, hcD.out]
 rintro e w3 ⟨rfl, hb⟩
 replace H := H.below hb
 clear hb
 have cn0 := H.cell (w.heap.size) 0 (.int .u64 nh) i12_
 have cn1 := H.cell (w.heap.size) 1 (.int .u64 nl) i13_
 have ln := H.lt (w.heap.size) 0 (.int .u64 nh) i12_
 have cd0 := H.cell (w.heap.size + 1) 0 (.int .u64 dh) i8_
 have cd1 := H.cell (w.heap.size + 1) 1 (.int .u64 dl) i9_
 have ld := H.lt (w.heap.size + 1) 0 (.int .u64 dh) i8_
 have cr0 := H.cell (w.heap.size + 2) 0 (.int .i64 0) i4_
 have cr1 := H.cell (w.heap.size + 2) 1 (.int .i64 0) i5_
 have lr := H.lt (w.heap.size + 2) 0 (.int .i64 0) i4_
 have fr0 := H.frozen (w.heap.size + 2) 0 i6_
 have fr1 := H.frozen (w.heap.size + 2) 1 i7_
 go_wp2_with fail
 exact bodyPost_ret (v := .tuple #[.agg #[.int .i64 0, .int .i64 0], .int .i64 6]) (by simp [results, Tryz.results182, go_sem, cr0, cr1]) rfl ⟨rfl, (H.old.setCell (by simp <;> omega) _).setCell (by simp <;> omega) _⟩
theorem zJs (a b p : Int) (w : World) (h1 : 0 ≤ a) (h2 : a < 18446744073709551616) (h3 : 0 ≤ b) (h4 : b < 18446744073709551616) (hp : a * b = p) :
  Calls Tryz.prog 187 #[.int .u64 a, .int .u64 b] w fun e w' => e = .returned (.agg #[.int .u64 (hi p), .int .u64 (lo p)]) ∧ Below w.heap.size w w' := by
 subst hp; exact mul_any a b w h1 h2 h3 h4
theorem zNn (p q : Int) (w : World) (p0 : 0 ≤ p) (p1 : p < top) (q0 : 0 ≤ q) (q1 : q < top) (h : p + q < top) :
  Calls Tryz.prog 186 #[.agg #[.int .u64 (hi p), .int .u64 (lo p)], .agg #[.int .u64 (hi q), .int .u64 (lo q)]] w fun e w' => e = .returned (.tuple #[.agg #[.int .u64 (hi (p + q)), .int .u64 (lo (p + q))], .int .i64 0]) ∧ Below w.heap.size w w' := by
 have a := hi_bd p p0 p1
 have b := hi_bd q q0 q1
 have := add_yes (hi p) (lo p) (hi q) (lo q) w (zGt p).1 (zGt p).2 a.1 a.2 (zGt q).1 (zGt q).2 b.1 b.2 (by rw [zCi, zCi]; exact h)
 rwa [zCi, zCi] at this
theorem div_hl (p d : Int) (w : World) (p0 : 0 ≤ p) (p1 : p < top) (d0 : 0 < d) (d1 : d < 18446744073709551616) :
  Calls Tryz.prog 188 #[.agg #[.int .u64 (hi p), .int .u64 (lo p)], .int .u64 d] w fun e w' => e = .returned (.tuple #[.agg #[.int .u64 (hi (p / d)), .int .u64 (lo (p / d))], .int .u64 (p % d), .int .i64 0]) ∧ Below w.heap.size w w' := by
 have a := hi_bd p p0 p1
 have b := zGt p
 have := div_yes (hi p) (lo p) d w b.1 b.2 a.1 a.2 d0 d1
 rwa [zCi] at this
theorem zHy (n d : Int) (w : World) (n0 : 0 ≤ n) (n1 : n < 18446744073709551616) (d0 : 0 ≤ d) (d1 : d < 18446744073709551616) (hp : 0 < n ∨ 0 < d) :
  Calls Tryz.prog 181 #[.int .u64 n, .int .u64 d] w fun e w' => e = .returned (.tuple #[.int .u64 (mN n d), .int .u64 (mD n d)]) ∧ Below w.heap.size w w' :=
 (zMp n d w n0 n1 d0 d1 hp).mono fun _ _ h => ⟨h.1, by obtain ⟨k, hk⟩ := h.2; rw [hk]; exact zAz k⟩
theorem zOx (nh nl dh dl n d : Int) (w : World) (k1 : 0 ≤ nl) (k2 : nl < 18446744073709551616) (k3 : 0 ≤ dl) (k4 : dl < 18446744073709551616) (hh : 0 ≤ nh) (hh2 : 0 ≤ dh) (hN : wn nh nl = mN n d) (hD : wn dh dl = mD n d) :
  Calls Tryz.prog 182 #[.agg #[.int .u64 nh, .int .u64 nl], .agg #[.int .u64 dh, .int .u64 dl]] w fun e w' => e = .returned (.tuple #[.agg #[.int .i64 (rN n d), .int .i64 (rD n d)], .int .i64 (rE n d)]) ∧ Below w.heap.size w w' := by
 by_cases h : fitB n d = true
 ·have k := (zCo n d).1 h
  obtain ⟨a, b, c⟩ := zDv h
  rw [a, b, c]
  exact fit_ok nh nl dh dl _ _ w k1 k2 k3 k4 hN hD hh hh2 k.1 k.2
 ·obtain ⟨a, b, c⟩ := r_no h
  rw [a, b, c]
  by_cases h1 : mN n d ≤ 4611686018427387904
  ·have h2 : 4611686018427387904 < mD n d := by
    by_cases h2 : mD n d ≤ 4611686018427387904
    ·exact absurd ((zCo n d).2 ⟨h1, h2⟩) h
    ·omega
   exact zOz nh nl dh dl _ _ w k1 k2 k3 k4 hN hD h1 h2
  ·exact zOy nh nl dh dl _ _ w k1 k2 k3 k4 hN hD (by omega)
theorem fit_hl (p q n d : Int) (w : World) (p0 : 0 ≤ p) (q0 : 0 ≤ q) (hN : p = mN n d) (hD : q = mD n d) :
  Calls Tryz.prog 182 #[.agg #[.int .u64 (hi p), .int .u64 (lo p)], .agg #[.int .u64 (hi q), .int .u64 (lo q)]] w fun e w' => e = .returned (.tuple #[.agg #[.int .i64 (rN n d), .int .i64 (rD n d)], .int .i64 (rE n d)]) ∧ Below w.heap.size w w' :=
 zOx (hi p) (lo p) (hi q) (lo q) n d w (zGt p).1 (zGt p).2 (zGt q).1 (zGt q).2 (by unfold hi; omega) (by unfold hi; omega) (by rw [zCi]; exact hN) (by rw [zCi]; exact hD)
theorem on_in (y m d k Y M : Int) (w : World) (h : may y m d) (h1 : 1 ≤ Y) (h2 : Y ≤ 9999) (h3 : 1 ≤ M) (h4 : M ≤ 12) (hM : 12 * Y + M = 12 * y + m + k) :
  Calls Tryz.prog 143 #[.agg #[.int .i64 y, .int .i64 m, .int .i64 d], .int .i64 k] w fun e w' => e = .returned (.tuple #[.int .i64 Y, .int .i64 M, .int .i64 0]) ∧ Below w.heap.size w w' := by
 have D : ∀ w : World, Below w.heap.size w (w.alloc (.cells #[.int .i64 y, .int .i64 m, .int .i64 d] 86)) := fun w => (Below.refl _ _).alloc (Nat.le_refl _) _
 obtain ⟨a1, a2, a3, a4, a5, a6⟩ := h
 clear a6
 have t1 : ¬ k < -((y - 1) * 12 + m - 1) := by omega
 have t2 : ¬ k > 119987 - ((y - 1) * 12 + m - 1) := by omega
 have e1 : 1 + ((y - 1) * 12 + m - 1 + k) / 12 = Y := by omega
 have e2 : 1 + ((y - 1) * 12 + m - 1 + k) % 12 = M := by omega
 go_enter Tryz.func143, Tryz.ntmps143
 go_wp2
 exact bodyPost_ret (v := .tuple #[.int .i64 Y, .int .i64 M, .int .i64 0]) (by simp [results, Tryz.results143, go_sem]) rfl ⟨rfl, D _⟩
theorem on_far (y m d k : Int) (w : World) (h : may y m d) (hk : 12 * y + m + k < 13 ∨ 120000 < 12 * y + m + k) :
  Calls Tryz.prog 143 #[.agg #[.int .i64 y, .int .i64 m, .int .i64 d], .int .i64 k] w fun e w' => e = .returned (.tuple #[.int .i64 0, .int .i64 0, .int .i64 3]) ∧ Below w.heap.size w w' := by
 have D : ∀ w : World, Below w.heap.size w (w.alloc (.cells #[.int .i64 y, .int .i64 m, .int .i64 d] 86)) := fun w => (Below.refl _ _).alloc (Nat.le_refl _) _
 obtain ⟨a1, a2, a3, a4, a5, a6⟩ := h
 clear a6
 by_cases t1 : k < -((y - 1) * 12 + m - 1)
 ·go_enter Tryz.func143, Tryz.ntmps143
  go_wp2
  exact bodyPost_ret (v := .tuple #[.int .i64 0, .int .i64 0, .int .i64 3]) (by simp [results, Tryz.results143, go_sem]) rfl ⟨rfl, D _⟩
 ·have t2 : k > 119987 - ((y - 1) * 12 + m - 1) := by omega
  go_enter Tryz.func143, Tryz.ntmps143
  go_wp2
  exact bodyPost_ret (v := .tuple #[.int .i64 0, .int .i64 0, .int .i64 3]) (by simp [results, Tryz.results143, go_sem]) rfl ⟨rfl, D _⟩
theorem zOl (y m d n e : Int) (w : World) (hL : Lens w) (hn : nN y m (min d (ln y m)) = n ∧ nE y m (min d (ln y m)) = e) :
  Calls Tryz.prog 144 #[.int .i64 y, .int .i64 m, .int .i64 d, .func (.func 145) #[] #[]] w fun e' w' => e' = .returned (.tuple #[.int .i64 n, .int .i64 e]) ∧ Below w.heap.size w w' := by
 have HL := Lib.hid hL
 have C1 := Lib.hid (fun v h => zBa y m v h)
 have HN := Lib.hid hn
 clear hL hn
 obtain ⟨l, HB⟩ : ∃ l, Hid (ln y m = l) := ⟨_, Lib.hid rfl⟩
 rw [HB.out] at C1 HN
 go_enter Tryz.func144, Tryz.ntmps144
 go_wp2_with fail
 (with_reducible refine (C1.out _ HL.out).mono ?_)
 rintro e w1 ⟨rfl, rfl⟩
 go_wp2_with fail
 all_goals first
  | ((with_reducible refine (zBp y m (min d l) n e _ HL.out HN.out).mono ?_); rintro e w1 ⟨rfl, hb⟩; go_wp2; go_ret2; exact ⟨rfl, hb⟩)
  | (rw [Int.min_eq_right (by omega)] at HN; (with_reducible refine (zBp y m l n e _ HL.out HN.out).mono ?_); rintro e w1 ⟨rfl, hb⟩; go_wp2; go_ret2; exact ⟨rfl, hb⟩)
  | (rw [Int.min_eq_left (by omega)] at HN; (with_reducible refine (zBp y m d n e _ HL.out HN.out).mono ?_); rintro e w1 ⟨rfl, hb⟩; go_wp2; go_ret2; exact ⟨rfl, hb⟩)
theorem same_any (y m d D : Int) (B : Nat) (w : World) (b : Bool) (h0 : w.cell? ⟨B, 0, none⟩ = some (.int .i64 y)) (h1 : w.cell? ⟨B, 1, none⟩ = some (.int .i64 m)) (h2 : w.cell? ⟨B, 2, none⟩ = some (.int .i64 d))
  (hb : decide (d = D) = b) :
  Calls Tryz.prog 147 #[.agg #[.int .i64 y, .int .i64 m, .int .i64 D], .pointer (some ⟨B, 0, none⟩)] w fun e w' => e = .returned (.tuple #[.bool b, .int .i64 0]) ∧ Below w.heap.size w w' := by
 have A : ∀ w : World, Below w.heap.size w (w.alloc (.cells #[.int .i64 y, .int .i64 m, .int .i64 D] 86)) := fun w => (Below.refl _ _).alloc (Nat.le_refl _) _
 have l0 := zA0 h0
 by_cases hd : d = D
 ·subst hd
  obtain rfl : true = b := by rw [← hb]; simp
  clear hb
  go_enter Tryz.func147, Tryz.ntmps147
  go_wp2
  go_ret2
  exact ⟨rfl, A _⟩
 ·obtain rfl : false = b := by rw [← hb]; simp [hd]
  clear hb
  go_enter Tryz.func147, Tryz.ntmps147
  go_wp2
  go_ret2
  exact ⟨rfl, A _⟩
theorem cutb_any (y m d : Int) (B : Nat) (b : Bool) (w : World) (hL : Lens w) (h0 : w.cell? ⟨B, 0, none⟩ = some (.int .i64 y)) (h1 : w.cell? ⟨B, 1, none⟩ = some (.int .i64 m)) (h2 : w.cell? ⟨B, 2, none⟩ = some (.int .i64 d))
    (hb : decide (d = ln y m) = b) :
    Calls Tryz.prog 146 #[.int .i64 y, .int .i64 m, .int .i64 31, .func (.func 147) #[] #[.pointer (some ⟨B, 0, none⟩)]] w fun e' w' => e' = .returned (.tuple #[.bool b, .int .i64 0]) ∧ Below w.heap.size w w' := by
  have C1 := Lib.hid (zBa y m w hL)
  have b31 := (zC0 y m).2
  obtain ⟨l, HB⟩ : ∃ l, Hid (ln y m = l) := ⟨_, Lib.hid rfl⟩
  rw [HB.out] at C1 b31 hb
  have C2 := Lib.hid (same_any y m d l B w b h0 h1 h2 hb)
  clear hL hb h0 h1 h2
  have t : ¬ l > 31 := by omega
  go_enter Tryz.func146, Tryz.ntmps146
  go_wp2_with fail
  (with_reducible refine C1.out.mono ?_)
  rintro e w1 ⟨rfl, rfl⟩
  go_wp2_with fail
  all_goals first
    | ((with_reducible refine C2.out.mono ?_); rintro e w1 ⟨rfl, hb⟩; go_wp2; go_ret2; exact ⟨rfl, hb⟩)
    | (rw [show min 31 l = l from Int.min_eq_right b31]; (with_reducible refine C2.out.mono ?_); rintro e w1 ⟨rfl, hb⟩; go_wp2; go_ret2; exact ⟨rfl, hb⟩)
    | (have e31 : l = 31 := by omega
       subst e31
       (with_reducible refine C2.out.mono ?_); rintro e w1 ⟨rfl, hb⟩; go_wp2; go_ret2; exact ⟨rfl, hb⟩)
theorem zJo (n y m d : Int) (b : Bool) (w : World) (hL : Lens w) (h : may y m d) (hn : nb y m d = n) (hb : decide (d = ln y m) = b) :
  Calls Tryz.prog 125 #[.int .i64 n] w fun e' w' => e' = .returned (.bool b) ∧ Below w.heap.size w w' := by
 have H := (Held.start w).add (f := zA8) hL
 clear hL
 have O1 : Hid (zCb n y m d 0) := Lib.hid (Or.inl ⟨h, hn, rfl⟩)
 have HB := Lib.hid hb
 clear h hn hb
 go_enter Tryz.func125, Tryz.ntmps125
 go_wp2_with fail
 (with_reducible refine (zAl n y m d 0 _ (H.lens i0_) O1.out).mono ?_)
 rintro e w1 ⟨rfl, hb⟩
 replace H := H.below hb
 clear hb
 go_wp2_with fail
 replace H := (H.triple (w1.heap.size) (.int .i64 y) (.int .i64 m) (.int .i64 d) 86 rfl)
 have cc0 := H.cell (w1.heap.size) 0 (.int .i64 y) i0_
 have cc1 := H.cell (w1.heap.size) 1 (.int .i64 m) i1_
 have cc2 := H.cell (w1.heap.size) 2 (.int .i64 d) i2_
 have lc := H.lt (w1.heap.size) 0 (.int .i64 y) i0_
 (with_reducible refine (cutb_any y m d (w1.heap.size) b _ (H.lens i6_) cc0 cc1 cc2 HB.out).mono ?_)
 rintro e w2 ⟨rfl, hb⟩
 replace H := H.below hb
 clear hb
 go_wp2
 go_ret
 exact ⟨rfl, H.old⟩
theorem zHw (n : Int) (w : World) (hL : Lens w) (h : n < 1 ∨ 3652059 < n) :
  Calls Tryz.prog 125 #[.int .i64 n] w fun e' w' => e' = .returned (.bool false) ∧ Below w.heap.size w w' := by
 have H := (Held.start w).add (f := zA8) hL
 clear hL
 have O1 : Hid (zCb n 0 0 0 3) := Lib.hid (Or.inr ⟨h, rfl, rfl, rfl, rfl⟩)
 clear h
 go_enter Tryz.func125, Tryz.ntmps125
 go_wp2_with fail
 (with_reducible refine (zAl n 0 0 0 3 _ (H.lens i0_) O1.out).mono ?_)
 rintro e w1 ⟨rfl, hb⟩
 replace H := H.below hb
 clear hb
 go_wp2_with fail
 replace H := (H.triple (w1.heap.size) (.int .i64 0) (.int .i64 0) (.int .i64 0) 86 rfl)
 go_ret
 exact ⟨rfl, H.old⟩
theorem zGr (n : Int) (b : Bool) (w : World) (hL : Lens w) (h : zHb n b) : Calls Tryz.prog 125 #[.int .i64 n] w fun e' w' => e' = .returned (.bool b) ∧ Below w.heap.size w w' := by
 rcases h with ⟨y, m, d, h1, h2, rfl⟩ | ⟨h, rfl⟩
 ·exact zJo n y m d _ w hL h1 h2 rfl
 ·exact zHw n w hL h
theorem zMc (n y m d r : Int) (w : World) (hL : Lens w) (h : may y m d) (hn : nb y m d = n) (hr : nb y m (ln y m) = r) :
  Calls Tryz.prog 126 #[.int .i64 n] w fun e' w' => e' = .returned (.tuple #[.int .i64 r, .int .i64 0]) ∧ Below w.heap.size w w' := by
 have H := (Held.start w).add (f := zA8) hL
 clear hL
 have O1 : Hid (zCb n y m d 0) := Lib.hid (Or.inl ⟨h, hn, rfl⟩)
 have HB : Hid (nN y m (min 31 (ln y m)) = r ∧ nE y m (min 31 (ln y m)) = 0) := Lib.hid (by
  rw [Int.min_eq_right (zC0 y m).2, ← hr]; exact zFu (end_may y m d h))
 clear h hn hr
 go_enter Tryz.func126, Tryz.ntmps126
 go_wp2_with fail
 (with_reducible refine (zAl n y m d 0 _ (H.lens i0_) O1.out).mono ?_)
 rintro e w1 ⟨rfl, hb⟩
 replace H := H.below hb
 clear hb
 go_wp2_with fail
 replace H := (H.triple (w1.heap.size) (.int .i64 y) (.int .i64 m) (.int .i64 d) 86 rfl)
 (with_reducible refine (zOl y m 31 r 0 _ (H.lens i6_) HB.out).mono ?_)
 rintro e w2 ⟨rfl, hb⟩
 replace H := H.below hb
 clear hb
 go_wp2
 go_ret2
 exact ⟨rfl, H.old⟩
theorem zJa (n : Int) (w : World) (hL : Lens w) (h : n < 1 ∨ 3652059 < n) :
  Calls Tryz.prog 126 #[.int .i64 n] w fun e' w' => e' = .returned (.tuple #[.int .i64 0, .int .i64 3]) ∧ Below w.heap.size w w' := by
 have H := (Held.start w).add (f := zA8) hL
 clear hL
 have O1 : Hid (zCb n 0 0 0 3) := Lib.hid (Or.inr ⟨h, rfl, rfl, rfl, rfl⟩)
 clear h
 go_enter Tryz.func126, Tryz.ntmps126
 go_wp2_with fail
 (with_reducible refine (zAl n 0 0 0 3 _ (H.lens i0_) O1.out).mono ?_)
 rintro e w1 ⟨rfl, hb⟩
 replace H := H.below hb
 clear hb
 go_wp2_with fail
 replace H := (H.triple (w1.heap.size) (.int .i64 0) (.int .i64 0) (.int .i64 0) 86 rfl)
 go_ret2
 exact ⟨rfl, H.old⟩
theorem end_any (n r e : Int) (w : World) (hL : Lens w) (h : EndIs n r e) : Calls Tryz.prog 126 #[.int .i64 n] w fun e' w' => e' = .returned (.tuple #[.int .i64 r, .int .i64 e]) ∧ Below w.heap.size w w' := by
 rcases h with ⟨y, m, d, h1, h2, rfl, rfl⟩ | ⟨h, rfl, rfl⟩
 ·exact zMc n y m d _ w hL h1 h2 rfl
 ·exact zJa n w hL h
theorem zIl (n k y m d Y M r : Int) (w : World) (hL : Lens w) (h : may y m d) (hn : nb y m d = n) (h1 : 1 ≤ Y) (h2 : Y ≤ 9999) (h3 : 1 ≤ M) (h4 : M ≤ 12) (hM : 12 * Y + M = 12 * y + m + k) (hr : nb Y M (min d (ln Y M)) = r) :
  Calls Tryz.prog 124 #[.int .i64 n, .int .i64 k] w fun e' w' => e' = .returned (.tuple #[.int .i64 r, .int .i64 0]) ∧ Below w.heap.size w w' := by
 have H := (Held.start w).add (f := zA8) hL
 clear hL
 have O1 : Hid (zCb n y m d 0) := Lib.hid (Or.inl ⟨h, hn, rfl⟩)
 have HB : Hid (nN Y M (min d (ln Y M)) = r ∧ nE Y M (min d (ln Y M)) = 0) := Lib.hid (by
  rw [← hr]; have := zOp false y m d Y M h h1 h2 h3 h4; unfold dm at this; simp only [Bool.false_eq_true, false_and, if_false] at this; exact zFu this)
 have C1 := Lib.hid (fun v => on_in y m d k Y M v h h1 h2 h3 h4 hM)
 clear h hn hr hM
 go_enter Tryz.func124, Tryz.ntmps124
 go_wp2_with fail
 (with_reducible refine (zAl n y m d 0 _ (H.lens i0_) O1.out).mono ?_)
 rintro e w1 ⟨rfl, hb⟩
 replace H := H.below hb
 clear hb
 go_wp2_with fail
 replace H := (H.triple (w1.heap.size) (.int .i64 y) (.int .i64 m) (.int .i64 d) 86 rfl)
 (with_reducible refine (C1.out _).mono ?_)
 rintro e w2 ⟨rfl, hb⟩
 replace H := H.below hb
 clear hb
 have cc0 := H.cell (w1.heap.size) 0 (.int .i64 y) i0_
 have cc1 := H.cell (w1.heap.size) 1 (.int .i64 m) i1_
 have cc2 := H.cell (w1.heap.size) 2 (.int .i64 d) i2_
 have lc := H.lt (w1.heap.size) 0 (.int .i64 y) i0_
 go_wp2_with fail
 clear cc0 cc1 cc2 lc
 (with_reducible refine (zOl Y M d r 0 _ (H.lens i6_) HB.out).mono ?_)
 rintro e w3 ⟨rfl, hb⟩
 replace H := H.below hb
 clear hb
 go_wp2
 go_ret2
 exact ⟨rfl, H.old⟩
theorem zH7 (n k y m d : Int) (w : World) (hL : Lens w) (h : may y m d) (hn : nb y m d = n) (hk : 12 * y + m + k < 13 ∨ 120000 < 12 * y + m + k) :
  Calls Tryz.prog 124 #[.int .i64 n, .int .i64 k] w fun e' w' => e' = .returned (.tuple #[.int .i64 0, .int .i64 3]) ∧ Below w.heap.size w w' := by
 have H := (Held.start w).add (f := zA8) hL
 clear hL
 have O1 : Hid (zCb n y m d 0) := Lib.hid (Or.inl ⟨h, hn, rfl⟩)
 have C1 := Lib.hid (fun v => on_far y m d k v h hk)
 clear h hn hk
 go_enter Tryz.func124, Tryz.ntmps124
 go_wp2_with fail
 (with_reducible refine (zAl n y m d 0 _ (H.lens i0_) O1.out).mono ?_)
 rintro e w1 ⟨rfl, hb⟩
 replace H := H.below hb
 clear hb
 go_wp2_with fail
 replace H := (H.triple (w1.heap.size) (.int .i64 y) (.int .i64 m) (.int .i64 d) 86 rfl)
 (with_reducible refine (C1.out _).mono ?_)
 rintro e w2 ⟨rfl, hb⟩
 replace H := H.below hb
 clear hb
 go_wp2
 go_ret2
 exact ⟨rfl, H.old⟩
theorem zH8 (n k : Int) (w : World) (hL : Lens w) (h : n < 1 ∨ 3652059 < n) :
  Calls Tryz.prog 124 #[.int .i64 n, .int .i64 k] w fun e' w' => e' = .returned (.tuple #[.int .i64 0, .int .i64 3]) ∧ Below w.heap.size w w' := by
 have H := (Held.start w).add (f := zA8) hL
 clear hL
 have O1 : Hid (zCb n 0 0 0 3) := Lib.hid (Or.inr ⟨h, rfl, rfl, rfl, rfl⟩)
 clear h
 go_enter Tryz.func124, Tryz.ntmps124
 go_wp2_with fail
 (with_reducible refine (zAl n 0 0 0 3 _ (H.lens i0_) O1.out).mono ?_)
 rintro e w1 ⟨rfl, hb⟩
 replace H := H.below hb
 clear hb
 go_wp2_with fail
 replace H := (H.triple (w1.heap.size) (.int .i64 0) (.int .i64 0) (.int .i64 0) 86 rfl)
 go_ret2
 exact ⟨rfl, H.old⟩
theorem zCw (n k r e : Int) (w : World) (hL : Lens w) (h : zCj n k false r e) : Calls Tryz.prog 124 #[.int .i64 n, .int .i64 k] w fun e' w' => e' = .returned (.tuple #[.int .i64 r, .int .i64 e]) ∧ Below w.heap.size w w' := by
 rcases h with ⟨y, m, d, Y, M, h, hn, h1, h2, h3, h4, hM, rfl, rfl⟩ | ⟨⟨y, m, d, h, hn, hk⟩, rfl, rfl⟩ | ⟨h, rfl, rfl⟩
 ·exact zIl n k y m d Y M _ w hL h hn h1 h2 h3 h4 hM (by unfold dm; simp)
 ·exact zH7 n k y m d w hL h hn hk
 ·exact zH8 n k w hL h
theorem zI0 (n k y m Y M r : Int) (w : World) (hL : Lens w) (h : may y m (ln y m)) (hn : nb y m (ln y m) = n) (h1 : 1 ≤ Y) (h2 : Y ≤ 9999) (h3 : 1 ≤ M) (h4 : M ≤ 12) (hM : 12 * Y + M = 12 * y + m + k) (hr : nb Y M (ln Y M) = r) :
  Calls Tryz.prog 110 #[.int .i64 n, .int .i64 k, .bool true] w fun e' w' => e' = .returned (.tuple #[.int .i64 r, .int .i64 0]) ∧ Below w.heap.size w w' := by
 have H := (Held.start w).add (f := zA8) hL
 clear hL
 obtain ⟨s, hs⟩ : ∃ s, nb Y M (min (ln y m) (ln Y M)) = s := ⟨_, rfl⟩
 have hD := zOp false y m (ln y m) Y M h h1 h2 h3 h4
 have e : dm false y m (ln y m) Y M = min (ln y m) (ln Y M) := by unfold dm; simp
 rw [e] at hD
 have M1 : Hid (zCj n k false s 0) := Lib.hid (zGu y m (ln y m) Y M _ h hn h1 h2 h3 h4 hM e hs)
 have L1 : Hid (zHb n true) := Lib.hid (zJn y m (ln y m) h hn (by simp))
 have E1 : Hid (EndIs s r 0) := Lib.hid (end_in Y M _ hD hs hr)
 clear h hn hM hr hs hD e
 go_enter Tryz.func110, Tryz.ntmps110
 go_wp2_with fail
 (with_reducible refine (zCw n k s 0 _ (H.lens i0_) M1.out).mono ?_)
 rintro e w1 ⟨rfl, hb⟩
 replace H := H.below hb
 clear hb
 go_wp2_with fail
 (with_reducible refine (zGr n true _ (H.lens i0_) L1.out).mono ?_)
 rintro e w2 ⟨rfl, hb⟩
 replace H := H.below hb
 clear hb
 go_wp2_with fail
 (with_reducible refine (end_any s r 0 _ (H.lens i0_) E1.out).mono ?_)
 rintro e w3 ⟨rfl, hb⟩
 replace H := H.below hb
 clear hb
 go_wp2
 go_ret2
 exact ⟨rfl, H.old⟩
theorem zI1 (n k r : Int) (w : World) (hL : Lens w) (hm : zCj n k false r 0) (hl : zHb n false) :
  Calls Tryz.prog 110 #[.int .i64 n, .int .i64 k, .bool true] w fun e' w' => e' = .returned (.tuple #[.int .i64 r, .int .i64 0]) ∧ Below w.heap.size w w' := by
 have H := (Held.start w).add (f := zA8) hL
 clear hL
 have M1 := Lib.hid hm
 have L1 := Lib.hid hl
 clear hm hl
 go_enter Tryz.func110, Tryz.ntmps110
 go_wp2_with fail
 (with_reducible refine (zCw n k r 0 _ (H.lens i0_) M1.out).mono ?_)
 rintro e w1 ⟨rfl, hb⟩
 replace H := H.below hb
 clear hb
 go_wp2_with fail
 (with_reducible refine (zGr n false _ (H.lens i0_) L1.out).mono ?_)
 rintro e w2 ⟨rfl, hb⟩
 replace H := H.below hb
 clear hb
 go_wp2
 go_ret2
 exact ⟨rfl, H.old⟩
theorem zFt (n k r e : Int) (w : World) (hL : Lens w) (hm : zCj n k false r e) (he : e = 0 ∨ e = 3) :
  Calls Tryz.prog 110 #[.int .i64 n, .int .i64 k, .bool false] w fun e' w' => e' = .returned (.tuple #[.int .i64 r, .int .i64 e]) ∧ Below w.heap.size w w' := by
 have H := (Held.start w).add (f := zA8) hL
 clear hL
 have M1 := Lib.hid hm
 clear hm
 rcases he with rfl | rfl
 ·go_enter Tryz.func110, Tryz.ntmps110
  go_wp2_with fail
  (with_reducible refine (zCw n k r 0 _ (H.lens i0_) M1.out).mono ?_)
  rintro e w1 ⟨rfl, hb⟩
  replace H := H.below hb
  clear hb
  go_wp2
  go_ret2
  exact ⟨rfl, H.old⟩
 ·go_enter Tryz.func110, Tryz.ntmps110
  go_wp2_with fail
  (with_reducible refine (zCw n k r 3 _ (H.lens i0_) M1.out).mono ?_)
  rintro e w1 ⟨rfl, hb⟩
  replace H := H.below hb
  clear hb
  go_wp2
  go_ret2
  exact ⟨rfl, H.old⟩
theorem zEi (n k r : Int) (b : Bool) (w : World) (hL : Lens w) (hm : zCj n k false r 3) :
  Calls Tryz.prog 110 #[.int .i64 n, .int .i64 k, .bool b] w fun e' w' => e' = .returned (.tuple #[.int .i64 r, .int .i64 3]) ∧ Below w.heap.size w w' := by
 have H := (Held.start w).add (f := zA8) hL
 clear hL
 have M1 := Lib.hid hm
 clear hm
 go_enter Tryz.func110, Tryz.ntmps110
 go_wp2_with fail
 (with_reducible refine (zCw n k r 3 _ (H.lens i0_) M1.out).mono ?_)
 rintro e w1 ⟨rfl, hb⟩
 replace H := H.below hb
 clear hb
 go_wp2
 go_ret2
 exact ⟨rfl, H.old⟩
theorem move_any (n k r e : Int) (b : Bool) (w : World) (hL : Lens w) (h : zCj n k b r e) : Calls Tryz.prog 110 #[.int .i64 n, .int .i64 k, .bool b] w fun e' w' => e' = .returned (.tuple #[.int .i64 r, .int .i64 e]) ∧ Below w.heap.size w w' := by
 rcases h with ⟨y, m, d, Y, M, h, hn, h1, h2, h3, h4, hM, hr, rfl⟩ | ⟨⟨y, m, d, h, hn, hk⟩, rfl, rfl⟩ | ⟨h, rfl, rfl⟩
 ·cases b
  ·exact zFt n k r 0 w hL (zGu y m d Y M _ h hn h1 h2 h3 h4 hM rfl hr) (Or.inl rfl)
  ·by_cases hd : d = ln y m
   ·subst hd
    exact zI0 n k y m Y M r w hL h hn h1 h2 h3 h4 hM (by unfold dm at hr; simpa using hr)
   ·refine zI1 n k r w hL (zGu y m d Y M _ h hn h1 h2 h3 h4 hM rfl ?_) (zJn y m d h hn (by simp [hd]))
    unfold dm at hr ⊢; simpa [hd] using hr
 ·exact zEi n k 0 b w hL (zLg y m d h hn hk)
 ·exact zEi n k 0 b w hL (move_out h)
theorem Held.quad {w W : World} {fs : List Fact} (h : Held w fs W) (B : Nat) (u v x z : Value) (t : TypeId) (hB : W.heap.size = B) :
  Held w (.cell B 0 u :: .cell B 1 v :: .cell B 2 x :: .cell B 3 z :: .free B 0 :: .free B 1 :: .free B 2 :: .free B 3 :: fs) (W.alloc (.cells #[u, v, x, z] t)) := by
 subst hB
 exact ((((((((h.alloc _).add (f := .free W.heap.size 3) ⟨by simp, by simp [go_sem]⟩).add (f := .free W.heap.size 2) ⟨by simp, by simp [go_sem]⟩).add (f := .free W.heap.size 1) ⟨by simp, by simp [go_sem]⟩).add (f := .free W.heap.size 0) ⟨by simp, by simp [go_sem]⟩).add (f := .cell W.heap.size 3 z) (by simp [Fact.at, World.cell?_alloc_new])).add (f := .cell W.heap.size 2 x) (by simp [Fact.at, World.cell?_alloc_new])).add (f := .cell W.heap.size 1 v) (by simp [Fact.at, World.cell?_alloc_new])).add (f := .cell W.heap.size 0 u) (by simp [Fact.at, World.cell?_alloc_new])
theorem zFh (n d : Int) (w : World) (n0 : 0 ≤ n) (n1 : n < 9223372036854775808) (d0 : 0 < d) (d1 : d < 9223372036854775808) :
  Calls Tryz.prog 158 #[.int .i64 n, .int .i64 d] w fun e w' => e = .returned (.tuple #[.agg #[.int .i64 (rN n d), .int .i64 (rD n d)], .int .i64 (rE n d)]) ∧ Below w.heap.size w w' := by
 have H := Held.start w
 obtain ⟨x, HX⟩ : ∃ x, Hid (mN n d = x) := ⟨_, Lib.hid rfl⟩
 obtain ⟨y, HY⟩ : ∃ y, Hid (mD n d = y) := ⟨_, Lib.hid rfl⟩
 have bx := zCu n d n0
 have b2 := m_le n d n0 (by omega)
 have b3 := zFf n d d0
 rw [HX.out] at bx
 rw [HY.out] at b3
 rw [HX.out, HY.out] at b2
 obtain ⟨b4, b5⟩ := b2
 obtain ⟨rn, RN⟩ : ∃ x, Hid (rN n d = x) := ⟨_, Lib.hid rfl⟩
 obtain ⟨rd, RD⟩ : ∃ x, Hid (rD n d = x) := ⟨_, Lib.hid rfl⟩
 obtain ⟨re, RE⟩ : ∃ x, Hid (rE n d = x) := ⟨_, Lib.hid rfl⟩
 have hx := Lib.hid (show wn 0 x = mN n d by rw [zDh, HX.out])
 have hy := Lib.hid (show wn 0 y = mD n d by rw [zDh, HY.out])
 rw [RN.out, RD.out, RE.out]
 have t1 : decide (n < 0) = false := by simp; omega
 have t2 : decide (d < 0) = false := by simp; omega
 have t3 : (d == 0) = false := beq_eq_false_iff_ne.2 (by omega)
 have wn : IntKind.u64.wrap n = n := IntWalk.u64_in _ (by omega)
 have wd : IntKind.u64.wrap d = d := IntWalk.u64_in _ (by omega)
 go_enter Tryz.func158, Tryz.ntmps158
 go_wp2_with fail
 replace H := (H.pair (w.heap.size) (.int .i64 0) (.int .i64 0) 48 rfl)
 (with_reducible refine (zHy n d _ (by omega) (by omega) (by omega) (by omega) (Or.inr d0)).mono ?_)
 rw [HX.out, HY.out]
 rintro e w1 ⟨rfl, hb⟩
 replace H := H.below hb
 clear hb
 go_wp2_with fail
 (with_reducible refine (zI3 x _).mono ?_)
 rintro e w2 ⟨rfl, hb⟩
 replace H := H.below hb
 clear hb
 go_wp2_with fail
 (with_reducible refine (zI3 y _).mono ?_)
 rintro e w3 ⟨rfl, hb⟩
 replace H := H.below hb
 clear hb
 go_wp2_with fail
 (with_reducible refine (zOx 0 x 0 y n d _ (by omega) (by omega) (by omega) (by omega) (by omega) (by omega) hx.out hy.out).mono ?_)
 rw [RN.out, RD.out, RE.out]
 rintro e w4 ⟨rfl, hb⟩
 replace H := H.below hb
 clear hb
 have cr0 := H.cell (w.heap.size) 0 (.int .i64 0) i0_
 have cr1 := H.cell (w.heap.size) 1 (.int .i64 0) i1_
 have lr := H.lt (w.heap.size) 0 (.int .i64 0) i0_
 have fr0 := H.frozen (w.heap.size) 0 i2_
 have fr1 := H.frozen (w.heap.size) 1 i3_
 go_wp2_with fail
 exact bodyPost_ret (v := .tuple #[.agg #[.int .i64 rn, .int .i64 rd], .int .i64 re]) (by simp [results, Tryz.results158, go_sem, cr0, cr1]) rfl ⟨rfl, (H.old.setCell (by simp <;> omega) _).setCell (by simp <;> omega) _⟩
end Go.Proofs.YtpfgdfpaoldhcaaGreatDoor
