/- Several texts in one: RatioNum, Gcd, CBase, CivilA, CivilB, EaNum, RuNum, CaNum, RoNum, MoNum, TyNum, CRef. -/
import Derived.Test.YtpfgdfpaoldhcaaGreatDoorSoAB
import Derived.WalkMore
import Derived.ScopeJumps
import Derived.Outline
import Derived.Deep.LoopGhost
set_option maxHeartbeats 8000000
set_option maxRecDepth 100000
set_option linter.unusedVariables false
set_option linter.unusedSimpArgs false
namespace Go.Proofs.YtpfgdfpaoldhcaaGreatDoor
def gi (a b : Int) : Int := (Int.gcd a b : Int)
theorem zGo (a b : Int) : gi a b = gi b a := by unfold gi; rw [Int.gcd_comm]
theorem zP3 (a : Int) (h : 0 ≤ a) : gi a 0 = a := by unfold gi; rw [Int.gcd_zero_right]; omega
theorem gi_nat (m n : Nat) : gi (m : Int) (n : Int) = (Nat.gcd m n : Int) := rfl
theorem zHr (a b : Int) : 0 ≤ gi a b := by unfold gi; omega
theorem zJh (a b : Int) (ha : 0 ≤ a) (hb : 0 ≤ b) : gi b (a % b) = gi a b := by
 obtain ⟨m, rfl⟩ := Int.eq_ofNat_of_zero_le ha
 obtain ⟨n, rfl⟩ := Int.eq_ofNat_of_zero_le hb
 rw [← Int.natCast_emod, gi_nat, gi_nat, Nat.gcd_comm m n, Nat.gcd_rec n m, Nat.gcd_comm]
theorem gi_dvd_l (a b : Int) : gi a b ∣ a := Int.gcd_dvd_left a b
theorem zD0 (a b : Int) : gi a b ∣ b := Int.gcd_dvd_right a b
theorem zHs (a b : Int) (h : 0 < a ∨ 0 < b) : 0 < gi a b := by
 unfold gi
 have : 0 < Int.gcd a b := Int.gcd_pos_iff.2 (by omega)
 omega
theorem zP2 (a b : Int) (h : 0 < b) : gi a b ≤ b := Int.le_of_dvd h (zD0 a b)
def mN (n d : Int) : Int := n / gi n d
def mD (n d : Int) : Int := d / gi n d
theorem zPe (n d : Int) : gi n d * mN n d = n := Int.mul_ediv_cancel' (gi_dvd_l n d)
theorem zLd (n d : Int) : gi n d * mD n d = d := Int.mul_ediv_cancel' (zD0 n d)
theorem zCu (n d : Int) (h : 0 ≤ n) : 0 ≤ mN n d := Int.ediv_nonneg h (zHr n d)
theorem zFf (n d : Int) (h : 0 < d) : 0 < mD n d := by
 have h1 := zLd n d
 have h2 := zHr n d
 by_cases k : 0 < mD n d
 ·exact k
 ·have : gi n d * mD n d ≤ 0 := Int.mul_nonpos_of_nonneg_of_nonpos h2 (by omega)
  omega
theorem zPf (n d : Int) : mN n d * d = n * mD n d := by
 have h1 := zPe n d
 have h2 := zLd n d
 grind
theorem zL6 (k n d : Int) (h : 0 ≤ k) : gi (k * n) (k * d) = k * gi n d := by
 unfold gi; rw [Int.gcd_mul_left]
 have : ((k.natAbs : Nat) : Int) = k := Int.natAbs_of_nonneg h
 rw [Int.natCast_mul, this]
theorem zJq (k n d : Int) (h : 0 < k) : mN (k * n) (k * d) = mN n d ∧ mD (k * n) (k * d) = mD n d := by
 unfold mN mD; rw [zL6 k n d (by omega)]
 exact ⟨Int.mul_ediv_mul_of_pos _ _ h, Int.mul_ediv_mul_of_pos _ _ h⟩
theorem m_eq {n d n' d' : Int} (hd : 0 < d) (hd' : 0 < d') (h : n * d' = n' * d) : mN n d = mN n' d' ∧ mD n d = mD n' d' := by
 have a := zJq d' n d hd'
 have b := zJq d n' d' hd
 have e1 : d' * n = d * n' := by grind
 have e2 : d' * d = d * d' := Int.mul_comm _ _
 rw [e1, e2] at a
 exact ⟨a.1.symm.trans b.1, a.2.symm.trans b.2⟩
theorem m_one (n d : Int) (h : 0 < n ∨ 0 < d) : gi (mN n d) (mD n d) = 1 := by
 have p := zHs n d h
 have e := zL6 (gi n d) (mN n d) (mD n d) (by omega)
 rw [zPe, zLd] at e
 have : gi n d * (gi (mN n d) (mD n d) - 1) = 0 := by grind
 rcases Int.mul_eq_zero.1 this with h | h <;> omega
theorem m_le (n d : Int) (hn : 0 ≤ n) (hd : 0 ≤ d) : mN n d ≤ n ∧ mD n d ≤ d := ⟨Int.ediv_le_self _ hn, Int.ediv_le_self _ hd⟩
def fitB (n d : Int) : Bool := decide (mN n d ≤ 4611686018427387904) && decide (mD n d ≤ 4611686018427387904)
def rN (n d : Int) : Int := if fitB n d = true then mN n d else 0
def rD (n d : Int) : Int := if fitB n d = true then mD n d else 0
def rE (n d : Int) : Int := if fitB n d = true then 0 else 6
theorem zCo (n d : Int) : fitB n d = true ↔ mN n d ≤ 4611686018427387904 ∧ mD n d ≤ 4611686018427387904 := by unfold fitB; simp
theorem zDv {n d : Int} (h : fitB n d = true) : rN n d = mN n d ∧ rD n d = mD n d ∧ rE n d = 0 := by unfold rN rD rE; simp [h]
theorem r_no {n d : Int} (h : ¬ fitB n d = true) : rN n d = 0 ∧ rD n d = 0 ∧ rE n d = 6 := by unfold rN rD rE; simp [h]
theorem r_eq {n d n' d' : Int} (hd : 0 < d) (hd' : 0 < d') (h : n * d' = n' * d) : rN n d = rN n' d' ∧ rD n d = rD n' d' ∧ rE n d = rE n' d' := by
 have ⟨a, b⟩ := m_eq hd hd' h
 unfold rN rD rE fitB; rw [a, b]; exact ⟨rfl, rfl, rfl⟩
theorem r_bd (n d : Int) (hn : 0 ≤ n) (hd : 0 < d) : 0 ≤ rN n d ∧ rN n d ≤ 4611686018427387904 ∧ 0 ≤ rD n d ∧ rD n d ≤ 4611686018427387904 ∧ (rE n d = 0 ∨ rE n d = 6) := by
 have h1 := zCu n d hn
 have h2 := zFf n d hd
 by_cases h : fitB n d = true
 ·have k := (zCo n d).1 h
  have ⟨a, b, c⟩ := zDv h
  rw [a, b, c]; omega
 ·have ⟨a, b, c⟩ := r_no h
  rw [a, b, c]; omega
def zAe (n d : Int) : Bool := decide (0 ≤ n ∧ n ≤ 4611686018427387904 ∧ 1 ≤ d ∧ d ≤ 4611686018427387904 ∧ gi n d = 1)
theorem zB6 (n d : Int) : zAe n d = true ↔ 0 ≤ n ∧ n ≤ 4611686018427387904 ∧ 1 ≤ d ∧ d ≤ 4611686018427387904 ∧ gi n d = 1 := by unfold zAe; simp
theorem zQ3 {n d : Int} (hn : 0 ≤ n) (hd : 0 < d) (h : fitB n d = true) : zAe (mN n d) (mD n d) = true := by
 have k := (zCo n d).1 h
 have h2 := zFf n d hd
 exact (zB6 _ _).2 ⟨zCu n d hn, k.1, by omega, k.2, m_one n d (Or.inr hd)⟩
theorem cop {a b : Int} (h : gi a b = 1) : Nat.Coprime a.natAbs b.natAbs := by
 unfold gi Int.gcd at h; unfold Nat.Coprime; omega
theorem uncop {a b : Int} (h : Nat.Coprime a.natAbs b.natAbs) : gi a b = 1 := by
 unfold gi Int.gcd; unfold Nat.Coprime at h; omega
theorem zPt {a b c : Int} (h1 : gi a b = 1) (h2 : gi a c = 1) : gi a (b * c) = 1 := by
 apply uncop; rw [Int.natAbs_mul]; exact Nat.Coprime.mul_right (cop h1) (cop h2)
theorem zI5 {a b c : Int} (h1 : gi a c = 1) (h2 : gi b c = 1) : gi (a * b) c = 1 := by
 rw [zGo]; exact zPt (by rw [zGo]; exact h1) (by rw [zGo]; exact h2)
theorem zI4 {a b c : Int} (h : gi a b = 1) (hc : c ∣ b) : gi a c = 1 := by
 exact uncop (Nat.Coprime.coprime_dvd_right (Int.natAbs_dvd_natAbs.2 hc) (cop h))
theorem zPs {a b k : Int} (h : gi a b = 1) : gi (a + k * b) b = 1 := by
 unfold gi at *; rw [Int.gcd_add_mul_right_left]; exact h
theorem zG6 {a b c : Int} (h : gi a b = 1) : gi a (b * c) = gi a c := by
 have := Nat.Coprime.gcd_mul_left_cancel_right c.natAbs (Nat.Coprime.symm (cop h))
 unfold gi Int.gcd; rw [Int.natAbs_mul, this]
end Go.Proofs.YtpfgdfpaoldhcaaGreatDoor
namespace Go.Proofs.YtpfgdfpaoldhcaaGreatDoor
open Go.RowKit
theorem zP1 (a b : Int) (w : World) (a0 : 0 ≤ a) (a1 : a < 18446744073709551616) (b0 : 0 ≤ b) (b1 : b < 18446744073709551616) :
  Calls Tryz.prog 185 #[.int .u64 a, .int .u64 b] w fun e w' => e = .returned (.int .u64 (gi a b)) ∧ ∃ n, w' = w.drewN n := by
 go_enter Tryz.func185, Tryz.ntmps185
 go_wp2
 refine wp_scope_jumps 0 (fun a' w' => (∃ n, w' = w.drewN n) ∧ ∃ (x y : Int) (u2 u3 u4 u5 u6 u7 u8 u9 u10 u11 : Value), a' = { tmps := #[.int .u64 x, .int .u64 y, u2, u3, u4, u5, u6, u7, u8, u9, u10, u11], defers := [] } ∧ 0 ≤ x ∧ x < 18446744073709551616 ∧ 0 ≤ y ∧ y < 18446744073709551616 ∧ gi x y = gi a b) (fun a' _ => (intOf (a'.tmps.getD 1 undef)).toNat) rfl ?_ ?_
 ·skip
  by_cases hz : b = 0
  ·subst hz
   go_wp2
   go_step3
   go_wp2
   simp only [Exit.jump]
   go_ret
   exact ⟨by rw [zP3 a (by omega)]; rfl, 0, rfl⟩
  ·have t1 : (b == 0) = false := beq_eq_false_iff_ne.2 hz
   have k1 : 0 ≤ b := by omega
   have k2 : b < 18446744073709551616 := by omega
   have k3 : 0 ≤ a % b := Int.emod_nonneg _ hz
   have k6 : a % b < b := Int.emod_lt_of_pos _ (by omega)
   have k4 : a % b < 18446744073709551616 := by omega
   have k5 : gi b (a % b) = gi a b := zJh a b a0 b0
   go_wp2
   go_step3
   go_wp2
   go_quiet (fail)
   go_wp2
   go_step3
   exact ⟨rfl, ⟨_, rfl⟩, b, a % b, _, _, _, _, _, _, _, _, _, _, rfl, k1, k2, k3, k4, k5⟩
 ·rintro a' w' ⟨⟨m, rfl⟩, x, y, u2, u3, u4, u5, u6, u7, u8, u9, u10, u11, rfl, x0, x1, y0, y1, hs⟩
  by_cases hz : y = 0
  ·subst hz
   go_wp2
   simp only [Exit.jump]
   go_ret
   exact ⟨by rw [← hs, zP3 x (by omega)]; rfl, _, rfl⟩
  ·have t1 : (y == 0) = false := beq_eq_false_iff_ne.2 hz
   have k1 : 0 ≤ y := by omega
   have k2 : y < 18446744073709551616 := by omega
   have k3 : 0 ≤ x % y := Int.emod_nonneg _ hz
   have k6 : x % y < y := Int.emod_lt_of_pos _ (by omega)
   have k4 : x % y < 18446744073709551616 := by omega
   have k5 : gi y (x % y) = gi a b := (zJh x y (by omega) (by omega)).trans hs
   go_wp2
   go_quiet (fail)
   go_wp2
   go_step3
   exact ⟨rfl, ⟨⟨_, by rw [World.drewN_drewN]⟩, y, x % y, _, _, _, _, _, _, _, _, _, _, rfl, k1, k2, k3, k4, k5⟩, by simp [intOf]; omega⟩
theorem zAz {w : World} (n : Nat) : Below w.heap.size w (w.drewN n) := zAa (Below.refl _ _) n
theorem zDn (a b : Int) (w : World) (a0 : 0 ≤ a) (a1 : a < 18446744073709551616) (b0 : 0 ≤ b) (b1 : b < 18446744073709551616) :
  Calls Tryz.prog 185 #[.int .u64 a, .int .u64 b] w fun e w' => e = .returned (.int .u64 (gi a b)) ∧ Below w.heap.size w w' :=
 (zP1 a b w a0 a1 b0 b1).mono fun _ _ h => ⟨h.1, by obtain ⟨n, hn⟩ := h.2; rw [hn]; exact zAz n⟩
theorem zMp (n d : Int) (w : World) (n0 : 0 ≤ n) (n1 : n < 18446744073709551616) (d0 : 0 ≤ d) (d1 : d < 18446744073709551616) (hp : 0 < n ∨ 0 < d) :
  Calls Tryz.prog 181 #[.int .u64 n, .int .u64 d] w fun e w' => e = .returned (.tuple #[.int .u64 (mN n d), .int .u64 (mD n d)]) ∧ ∃ k, w' = w.drewN k := by
 obtain ⟨g, HG⟩ : ∃ g, Hid (gi n d = g) := ⟨_, Lib.hid rfl⟩
 have gp := zHs n d hp
 rw [HG.out] at gp
 have q1 : 0 ≤ n / g := Int.ediv_nonneg n0 (by omega)
 have q2 : n / g < 18446744073709551616 := Int.lt_of_le_of_lt (Int.ediv_le_self _ n0) n1
 have q3 : 0 ≤ d / g := Int.ediv_nonneg d0 (by omega)
 have q4 : d / g < 18446744073709551616 := Int.lt_of_le_of_lt (Int.ediv_le_self _ d0) d1
 have t1 : (g == 0) = false := beq_eq_false_iff_ne.2 (by omega)
 have hN := Lib.hid (show mN n d = n / g by rw [← HG.out]; rfl)
 have hD := Lib.hid (show mD n d = d / g by rw [← HG.out]; rfl)
 rw [hN.out, hD.out]
 have C := Lib.hid (zP1 n d w n0 n1 d0 d1)
 clear hp
 go_enter Tryz.func181, Tryz.ntmps181
 go_wp2_with fail
 (with_reducible refine (C.out).mono ?_)
 rw [HG.out]
 rintro e w' ⟨rfl, m, rfl⟩
 go_wp2
 go_quiet (fail)
 go_wp2
 go_ret2
 exact ⟨rfl, _, by rw [World.drewN_drewN]⟩
theorem Calls.same {P : Program} {f : FuncId} {args : Array Value} {w : World} {v : Value}
  (h : Calls P f args w fun e w' => e = .returned v ∧ w = w') : Calls P f args w fun e w' => e = .returned v ∧ Below w.heap.size w w' :=
 h.mono fun _ _ hh => ⟨hh.1, hh.2 ▸ Below.refl _ _⟩
theorem Held.triple {w W : World} {fs : List Fact} (h : Held w fs W) (B : Nat) (u v x : Value) (t : TypeId) (hB : W.heap.size = B) :
  Held w (.cell B 0 u :: .cell B 1 v :: .cell B 2 x :: .free B 0 :: .free B 1 :: .free B 2 :: fs) (W.alloc (.cells #[u, v, x] t)) := by
 subst hB
 exact ((((((h.alloc _).add (f := .free W.heap.size 2) ⟨by simp, by simp [go_sem]⟩).add (f := .free W.heap.size 1) ⟨by simp, by simp [go_sem]⟩).add (f := .free W.heap.size 0) ⟨by simp, by simp [go_sem]⟩).add (f := .cell W.heap.size 2 x) (by simp [Fact.at, World.cell?_alloc_new])).add (f := .cell W.heap.size 1 v) (by simp [Fact.at, World.cell?_alloc_new])).add (f := .cell W.heap.size 0 u) (by simp [Fact.at, World.cell?_alloc_new])
def Lens (w : World) : Prop := ∀ i : Nat, i < 12 → w.cell? ⟨9, i, none⟩ = some (.int .i64 (l0 ((i : Int) + 1)))
theorem Lens.below {W W' : World} (h : Lens W) (hb : Below W.heap.size W W') : Lens W' := fun i hi => keep hb (zA0 (h i hi)) (h i hi)
theorem Lens.drewN {W : World} (h : Lens W) (n : Nat) : Lens (W.drewN n) := h.below (zAz n)
theorem Lens.alloc {W : World} (h : Lens W) (o : Obj) : Lens (W.alloc o) := h.below ((Below.refl _ _).alloc (Nat.le_refl _) o)
def zA8 : Fact := .that Lens (fun _ _ hb h => h.below hb)
theorem zNe (y k : Int) : y.tmod k = 0 ↔ y % k = 0 := by
 rw [← Int.dvd_iff_tmod_eq_zero, Int.dvd_iff_emod_eq_zero]
theorem zCh (y k : Int) (hk : 0 < k) : -k < y.tmod k ∧ y.tmod k < k := by
 have h1 := Int.lt_tmod_of_pos y hk
 have h2 := Int.tmod_lt_of_pos y hk
 omega
theorem retB {a b : Bool} (h : a = b) : Ending.returned (.bool a) = .returned (.bool b) := by rw [h]
theorem retI {k : IntKind} {a b : Int} (h : a = b) : Ending.returned (.int k a) = .returned (.int k b) := by rw [h]
theorem ret2 {k l : IntKind} {a b c d : Int} (h1 : a = c) (h2 : b = d) : Ending.returned (.tuple #[.int k a, .int l b]) = .returned (.tuple #[.int k c, .int l d]) := by rw [h1, h2]
theorem zGs (y : Int) (w : World) : Calls Tryz.prog 180 #[.int .i64 y] w fun e w' => e = .returned (.bool (lp y)) ∧ w = w' := by
 have b1 := zCh y 4 (by decide)
 have b2 := zCh y 100 (by decide)
 have b3 := zCh y 400 (by decide)
 have e1 := zNe y 4
 have e2 := zNe y 100
 have e3 := zNe y 400
 obtain ⟨b, hb⟩ : ∃ b, lp y = b := ⟨_, rfl⟩
 have hl := zFe y
 rw [hb] at hl ⊢
 go_enter Tryz.func180, Tryz.ntmps180
 go_wp2
 all_goals (go_ret; refine ⟨retB ?_, rfl⟩; rw [Bool.eq_iff_iff, hl]; simp only [Bool.or_eq_true, Bool.and_eq_true, beq_iff_eq, bne_iff_ne, ne_eq, true_iff]; omega)
theorem zMm (y m : Int) (w : World) (hm : m < 1 ∨ 12 < m) : Calls Tryz.prog 167 #[.int .i64 y, .int .i64 m] w fun e w' => e = .returned (.int .i64 (ln y m)) ∧ w = w' := by
 rw [zLc y m hm]
 by_cases h : m < 1
 ·go_enter Tryz.func167, Tryz.ntmps167
  go_wp2
  go_ret
  exact ⟨rfl, rfl⟩
 ·have h2 : 12 < m := by omega
  go_enter Tryz.func167, Tryz.ntmps167
  go_wp2
  go_ret
  exact ⟨rfl, rfl⟩
theorem zMo (y : Int) (w : World) (hL : Lens w) : Calls Tryz.prog 167 #[.int .i64 y, .int .i64 2] w fun e w' => e = .returned (.int .i64 (ln y 2)) ∧ w = w' := by
 have hc := hL 1 (by decide)
 rw [show l0 (((1 : Nat) : Int) + 1) = 28 from rfl] at hc
 obtain ⟨b, hb⟩ : ∃ b, lp y = b := ⟨_, rfl⟩
 have C := zGs y
 rw [hb] at C
 have hl : ln y 2 = if b = true then 29 else 28 := by unfold ln l0; rw [hb]; simp
 rw [hl]
 clear hl hL
 have CC := Lib.hid C
 clear C
 go_enter Tryz.func167, Tryz.ntmps167
 go_wp2_with fail
 (with_reducible refine (CC.out _).mono ?_)
 rintro e w1 ⟨rfl, rfl⟩
 cases b
 ·go_wp2
  go_ret
  exact ⟨rfl, rfl⟩
 ·go_wp2
  go_ret
  exact ⟨rfl, rfl⟩
theorem zMn (y : Int) (k : Nat) (w : World) (hL : Lens w) (hk : k < 12) (h1 : k ≠ 1) : Calls Tryz.prog 167 #[.int .i64 y, .int .i64 ((k : Int) + 1)] w fun e w' => e = .returned (.int .i64 (ln y ((k : Int) + 1))) ∧ w = w' := by
 have hc := hL k hk
 have hl : ln y ((k : Int) + 1) = l0 ((k : Int) + 1) := by unfold ln; rw [if_neg (by omega)]
 rw [hl]
 generalize l0 ((k : Int) + 1) = v at *
 clear hL hl
 have h2 : ((k : Int) + 1 == 2) = false := beq_eq_false_iff_ne.2 (by omega)
 go_enter Tryz.func167, Tryz.ntmps167
 go_wp2
 go_ret
 exact ⟨rfl, rfl⟩
theorem zBa (y m : Int) (w : World) (hL : Lens w) : Calls Tryz.prog 167 #[.int .i64 y, .int .i64 m] w fun e w' => e = .returned (.int .i64 (ln y m)) ∧ w = w' := by
 by_cases h : m < 1 ∨ 12 < m
 ·exact zMm y m w h
 ·by_cases h2 : m = 2
  ·subst h2; exact zMo y w hL
  ·obtain ⟨k, rfl⟩ : ∃ k : Nat, m = (k : Int) + 1 := ⟨(m - 1).toNat, by omega⟩
   exact zMn y k w hL (by omega) (by omega)
theorem zLw (y : Int) (w : World) (h1 : 1 ≤ y) (h2 : y ≤ 100000) : Calls Tryz.prog 173 #[.int .i64 y] w fun e w' => e = .returned (.int .i64 (ah y)) ∧ w = w' := by
 have h0 : ah y = (y - 1) * 365 + (y - 1) / 4 - (y - 1) / 100 + (y - 1) / 400 := rfl
 rw [h0]
 go_enter Tryz.func173, Tryz.ntmps173
 go_wp2
 go_ret
 exact ⟨rfl, rfl⟩
def wk (n : Int) : Int := (n - 1) % 7
theorem zLu (n : Int) (w : World) : Calls Tryz.prog 162 #[.int .i64 n] w fun e w' => e = .returned (.int .i64 (wk n)) ∧ w = w' := by
 have b := zCh n 7 (by decide)
 have e : wk n = (n.tmod 7 + 7 - 1) % 7 := by
  unfold wk
  by_cases h : 0 ≤ n
  ·rw [Int.tmod_eq_emod_of_nonneg h]; omega
  ·have h7 : n.tmod 7 = -((-n).tmod 7) := by rw [Int.neg_tmod]; omega
   rw [h7, Int.tmod_eq_emod_of_nonneg (by omega)]; omega
 rw [e]
 clear e
 go_enter Tryz.func162, Tryz.ntmps162
 go_wp2
 go_ret
 exact ⟨rfl, rfl⟩
theorem zNk (n y : Int) (w : World) (h1 : 1 ≤ y) (h2 : y ≤ 9999) (h3 : ah y < n) (h4 : n ≤ ah y + yl y) :
  Calls Tryz.prog 136 #[.int .i64 n] w fun e w' => e = .returned (.tuple #[.int .i64 y, .int .i64 (n - 1 - ah y)]) ∧ w = w' := by
 have p := zIs y h1 (by omega)
 have q := zRu y
 have K := Lib.hid (year_div n y h1 h3 h4)
 have n1 : 1 ≤ n := by omega
 have n2 : n ≤ 3652500 := by omega
 clear h1 h2 h3 h4 p q
 generalize n - 1 - ah y = g at *
 go_enter Tryz.func136, Tryz.ntmps136
 go_wp2
 all_goals
  obtain ⟨r, b, r2, c, er, eb, er2, ec, ey, eg⟩ := K.out
  simp only [← er] at *
  go_ret2
  exact ⟨ret2 (by omega) (by omega), rfl⟩
theorem Held.lens {w W : World} {fs : List Fact} (h : Held w fs W) (hm : zA8 ∈ fs := by repeat (first | with_reducible exact List.mem_cons_self | with_reducible apply List.mem_cons_of_mem)) : Lens W := h.all _ hm
def nN (y m d : Int) : Int := if mb y m d = true then nb y m d else 0
def nE (y m d : Int) : Int := if mb y m d = true then 0 else 3
theorem zFu {y m d : Int} (h : may y m d) : nN y m d = nb y m d ∧ nE y m d = 0 := by unfold nN nE; rw [(zEh y m d).2 h]; exact ⟨rfl, rfl⟩
theorem n_no {y m d : Int} (h : ¬ may y m d) : nN y m d = 0 ∧ nE y m d = 3 := by unfold nN nE; rw [(zLf y m d).2 h]; exact ⟨rfl, rfl⟩
theorem zLv (y m : Int) (w : World) (hL : Lens w) (h1 : 1 ≤ m) (h2 : m ≤ 12) : Calls Tryz.prog 174 #[.int .i64 y, .int .i64 m] w fun e w' => e = .returned (.int .i64 (am y m)) ∧ w = w' := by
 have HL := Lib.hid (fun k => zBa y k w hL)
 clear hL
 go_enter Tryz.func174, Tryz.ntmps174
 go_wp2
 go_loop [5, 6] (fun d i => ∃ b : Int, 1 ≤ b ∧ b ≤ m ∧ i = .int .i64 b ∧ d = .int .i64 (am y b)) (fun _ i => (m - intOf i).toNat)
 case atStart => exact ⟨1, by omega, h1, rfl, by rw [zFz]⟩
 case round =>
  obtain ⟨b, b1, b2, rfl, rfl⟩ := hrel
  by_cases hb : b < m
  ·have st := Lib.hid (zE0 y b b1 (by omega))
   have k1 := zIt y b
   have k2 := zC0 y b
   generalize am y b = A at *
   go_wp2_with fail
   (with_reducible refine (HL.out _).mono ?_)
   rintro e w1 ⟨rfl, rfl⟩
   generalize ln y b = l at *
   go_wp2
   go_round
   case rel => exact ⟨b + 1, by omega, by omega, rfl, by rw [st.out]⟩
   case measure => simp [intOf]; omega
  ·have e : b = m := by omega
   subst e
   go_wp2
   go_ret
   exact ⟨rfl, rfl⟩
theorem zJr (y r m : Int) (w : World) (hL : Lens w) (h1 : 1 ≤ m) (h2 : m ≤ 12) (h3 : am y m ≤ r) (h4 : r < am y m + ln y m) :
  Calls Tryz.prog 137 #[.int .i64 y, .int .i64 r] w fun e w' => e = .returned (.tuple #[.int .i64 m, .int .i64 (r - am y m)]) ∧ w = w' := by
 have HL := Lib.hid (fun k => zBa y k w hL)
 clear hL
 have r0 : 0 ≤ r := by have := zIt y m; omega
 have r1 : r ≤ 400 := by have := zIt y m; have := zC0 y m; omega
 go_enter Tryz.func137, Tryz.ntmps137
 go_wp2
 go_loop [4, 5] (fun i l => ∃ b : Int, 1 ≤ b ∧ b ≤ m ∧ i = .int .i64 b ∧ l = .int .i64 (r - am y b)) (fun i _ => (m - intOf i).toNat)
 case atStart => exact ⟨1, by omega, h1, rfl, by rw [zFz]; simp⟩
 case round =>
  obtain ⟨b, b1, b2, rfl, rfl⟩ := hrel
  have k1 := zIt y b
  have k2 := zC0 y b
  by_cases hb : b < m
  ·have st := Lib.hid (zE0 y b b1 (by omega))
   have k3 := am_lt y b m b1 hb (by omega)
   have k4 : ln y b ≤ r - am y b := by omega
   clear k3
   obtain ⟨L, HA⟩ : ∃ L, Hid (r - am y b = L) := ⟨_, Lib.hid rfl⟩
   have k5 : 0 ≤ L ∧ L ≤ 400 := by rw [← HA.out]; omega
   rw [HA.out] at k4 ⊢
   clear k1
   go_wp2_with fail
   (with_reducible refine (HL.out _).mono ?_)
   rintro e w1 ⟨rfl, rfl⟩
   obtain ⟨l, HB⟩ : ∃ l, Hid (ln y b = l) := ⟨_, Lib.hid rfl⟩
   rw [HB.out] at k2 k4 ⊢
   go_wp2_with fail
   (with_reducible refine (HL.out _).mono ?_)
   rintro e w1 ⟨rfl, rfl⟩
   rw [HB.out]
   go_wp2
   go_round
   case rel => exact ⟨b + 1, by omega, by omega, rfl, by rw [st.out, ← HA.out, ← HB.out]; simp only [Value.int.injEq, true_and]; omega⟩
   case measure => simp [intOf]; omega
  ·have e : b = m := by omega
   subst e
   have k4 : r - am y b < ln y b := by omega
   have k5 : 0 ≤ r - am y b ∧ r - am y b ≤ 400 := by omega
   obtain ⟨L, HA⟩ : ∃ L, Hid (r - am y b = L) := ⟨_, Lib.hid rfl⟩
   rw [HA.out] at k4 k5 ⊢
   clear k1 h3 h4
   go_wp2_with fail
   (with_reducible refine (HL.out _).mono ?_)
   rintro e w1 ⟨rfl, rfl⟩
   obtain ⟨l, HB⟩ : ∃ l, Hid (ln y b = l) := ⟨_, Lib.hid rfl⟩
   rw [HB.out] at k2 k4 ⊢
   go_wp2
   go_ret2
   exact ⟨by rw [HA.out]; rfl, rfl⟩
theorem zPi (y m d : Int) (w : World) (hL : Lens w) : Calls Tryz.prog 172 #[.agg #[.int .i64 y, .int .i64 m, .int .i64 d]] w fun e w' => e = .returned (.bool (mb y m d)) ∧ Below w.heap.size w w' := by
 have HL := Lib.hid hL
 clear hL
 by_cases hy : 1 ≤ y
 ·by_cases hz : y ≤ 9999
  ·by_cases hd : 1 ≤ d
   ·have C := Lib.hid (fun v h => zBa y m v h)
    obtain ⟨l, HB⟩ : ∃ l, Hid (ln y m = l) := ⟨_, Lib.hid rfl⟩
    have hm : mb y m d = decide (d ≤ l) := by
     rw [← HB.out]; unfold mb; rw [decide_eq_decide]
     constructor
     ·intro h; exact h.2.2.2.2.2
     ·intro h
      by_cases k : m < 1 ∨ 12 < m
      ·rw [zLc y m k] at h; omega
      ·exact ⟨hy, hz, by omega, by omega, hd, h⟩
    rw [hm]
    rw [HB.out] at C
    go_enter Tryz.func172, Tryz.ntmps172
    go_wp2
    go_quiet ((go_at_call 167; with_reducible exact zAu (C.out _ (Lens.drewN (Lens.alloc HL.out _) _))))
    go_wp2
    go_ret
    exact ⟨rfl, zAa ((Below.refl _ _).alloc (Nat.le_refl _) _) _⟩
   ·skip
    have hm : mb y m d = false := by unfold mb; rw [decide_eq_false_iff_not]; omega
    rw [hm]
    have t1 : decide (1 ≤ d) = false := decide_eq_false hd
    go_enter Tryz.func172, Tryz.ntmps172
    go_wp2
    go_quiet (fail)
    go_wp2
    go_ret
    exact ⟨rfl, zAa ((Below.refl _ _).alloc (Nat.le_refl _) _) _⟩
  ·skip
   have hm : mb y m d = false := by unfold mb; rw [decide_eq_false_iff_not]; omega
   rw [hm]
   have t1 : decide (y ≤ 9999) = false := decide_eq_false hz
   go_enter Tryz.func172, Tryz.ntmps172
   go_wp2
   go_quiet (fail)
   go_wp2
   go_ret
   exact ⟨rfl, zAa ((Below.refl _ _).alloc (Nat.le_refl _) _) _⟩
 ·skip
  have hm : mb y m d = false := by unfold mb; rw [decide_eq_false_iff_not]; omega
  rw [hm]
  have t1 : decide (1 ≤ y) = false := decide_eq_false hy
  go_enter Tryz.func172, Tryz.ntmps172
  go_wp2
  go_quiet (fail)
  go_wp2
  go_ret
  exact ⟨rfl, zAa ((Below.refl _ _).alloc (Nat.le_refl _) _) _⟩
theorem zG9 (y m d : Int) (w : World) (hL : Lens w) : Calls Tryz.prog 145 #[.agg #[.int .i64 y, .int .i64 m, .int .i64 d]] w fun e w' =>
  e = .returned (.tuple #[.int .i64 (nN y m d), .int .i64 (nE y m d)]) ∧ Below w.heap.size w w' := by
 by_cases hm : may y m d
 ·obtain ⟨e1, e2⟩ := zFu hm
  rw [e1, e2]
  have hb := (zEh y m d).2 hm
  have bd := zC8 y m d hm
  have H := (Held.start w).add (f := zA8) hL
  clear hL
  have C1 := Lib.hid (fun v h => zPi y m d v h)
  rw [hb] at C1
  obtain ⟨m1, m2, m3, m4, m5, m6⟩ := hm
  have C2 := Lib.hid (fun v => zLw y v m1 (by omega))
  have C3 := Lib.hid (fun v h => zLv y m v h m3 m4)
  have u1 := zIs y m1 (by omega)
  have u2 := zIt y m
  have hn : nb y m d = ah y + am y m + d := rfl
  rw [hn] at bd ⊢
  generalize ah y = a at *
  generalize am y m = b at *
  clear hn m6
  go_enter Tryz.func145, Tryz.ntmps145
  replace H := H.triple w.heap.size (.int .i64 y) (.int .i64 m) (.int .i64 d) 86 rfl
  go_wp2_with fail
  (with_reducible refine (C1.out _ (H.lens i6_)).mono ?_)
  rintro e w1 ⟨rfl, hb1⟩
  replace H := H.below hb1
  clear hb1
  have HK := H.old
  have HL := Lib.hid (H.lens i6_)
  have c0 := H.cell w.heap.size 0 (.int .i64 y) i0_
  have c1 := H.cell w.heap.size 1 (.int .i64 m) i1_
  have c2 := H.cell w.heap.size 2 (.int .i64 d) i2_
  clear H
  go_wp2
  go_quiet (first | (go_at_call 173; with_reducible exact zAu (C2.out _)) | (go_at_call 174; with_reducible exact zAu (C3.out _ (Lens.drewN HL.out _))))
  go_wp2
  go_ret2
  exact ⟨rfl, zAa HK _⟩
 ·obtain ⟨e1, e2⟩ := n_no hm
  rw [e1, e2]
  have hb := (zLf y m d).2 hm
  have C1 := Lib.hid (fun v h => zPi y m d v h)
  rw [hb] at C1
  have H := (Held.start w).add (f := zA8) hL
  clear hL hb hm
  go_enter Tryz.func145, Tryz.ntmps145
  replace H := H.triple w.heap.size (.int .i64 y) (.int .i64 m) (.int .i64 d) 86 rfl
  go_wp2_with fail
  (with_reducible refine (C1.out _ (H.lens i6_)).mono ?_)
  rintro e w1 ⟨rfl, hb1⟩
  replace H := H.below hb1
  clear hb1
  have HK := H.old
  clear H
  go_wp2
  go_ret2
  exact ⟨rfl, HK⟩
def zCb (n y m d e : Int) : Prop := (may y m d ∧ nb y m d = n ∧ e = 0) ∨ ((n < 1 ∨ 3652059 < n) ∧ y = 0 ∧ m = 0 ∧ d = 0 ∧ e = 3)
theorem day_is (n : Int) : ∃ y m d e, zCb n y m d e := by
 by_cases h : n < 1 ∨ 3652059 < n
 ·exact ⟨0, 0, 0, 3, Or.inr ⟨h, rfl, rfl, rfl, rfl⟩⟩
 ·obtain ⟨y, m, d, h1, h2⟩ := zBg n (by omega) (by omega)
  exact ⟨y, m, d, 0, Or.inl ⟨h1, h2, rfl⟩⟩
theorem zAl (n y m d e : Int) (w : World) (hL : Lens w) (hd : zCb n y m d e) : Calls Tryz.prog 115 #[.int .i64 n] w fun e' w' =>
  e' = .returned (.tuple #[.agg #[.int .i64 y, .int .i64 m, .int .i64 d], .int .i64 e]) ∧ Below w.heap.size w w' := by
 rcases hd with ⟨hm, hn, rfl⟩ | ⟨ho, rfl, rfl, rfl, rfl⟩
 ·have iy := zBi y m d hm
  have bd := zC8 y m d hm
  rw [hn] at bd
  obtain ⟨m1, m2, m3, m4, m5, m6⟩ := hm
  unfold nb at hn
  have C1 := Lib.hid (fun v => zNk n y v m1 m2 (by omega) (by omega))
  have C2 := Lib.hid (fun v h => zJr y (n - 1 - ah y) m v h m3 m4 (by omega) (by omega))
  have e1 : n - 1 - ah y - am y m = d - 1 := by omega
  rw [e1] at C2
  generalize n - 1 - ah y = g at *
  clear e1 iy
  have d31 : d ≤ 31 := by have := zC0 y m; omega
  have H := (Held.start w).add (f := zA8) hL
  clear hL hn
  go_enter Tryz.func115, Tryz.ntmps115
  replace H := H.triple w.heap.size (.int .i64 0) (.int .i64 0) (.int .i64 0) 86 rfl
  go_wp2_with fail
  (with_reducible refine (C1.out _).mono ?_)
  rintro e w1 ⟨rfl, rfl⟩
  go_wp2_with fail
  (with_reducible refine (C2.out _ (H.lens i6_)).mono ?_)
  rintro e w1 ⟨rfl, rfl⟩
  have HK := H.old
  clear H
  go_wp2
  exact bodyPost_ret (v := .tuple #[.agg #[.int .i64 y, .int .i64 m, .int .i64 d], .int .i64 0]) (by simp [results, Tryz.results115, go_sem]) rfl ⟨rfl, (Below.refl _ _).alloc (Nat.le_refl _) _⟩
 ·have D : ∀ w : World, Below w.heap.size w (w.alloc (.cells #[.int .i64 0, .int .i64 0, .int .i64 0] 86)) := fun w => (Below.refl _ _).alloc (Nat.le_refl _) _
  by_cases h : n < 1
  ·go_enter Tryz.func115, Tryz.ntmps115
   go_wp2
   exact bodyPost_ret (v := .tuple #[.agg #[.int .i64 0, .int .i64 0, .int .i64 0], .int .i64 3]) (by simp [results, Tryz.results115, go_sem]) rfl ⟨rfl, D _⟩
  ·have h2 : 3652059 < n := by omega
   go_enter Tryz.func115, Tryz.ntmps115
   go_wp2
   exact bodyPost_ret (v := .tuple #[.agg #[.int .i64 0, .int .i64 0, .int .i64 0], .int .i64 3]) (by simp [results, Tryz.results115, go_sem]) rfl ⟨rfl, D _⟩
end Go.Proofs.YtpfgdfpaoldhcaaGreatDoor
namespace Go.Proofs.YtpfgdfpaoldhcaaGreatDoor
def eaR (y : Int) : Int := (11 * (y % 19 + 1) + 20 + ((8 * (y / 100 + 1) + 5) / 25 - 5) - (3 * (y / 100 + 1) / 4 - 12)) % 30
def eaE (y : Int) : Int := if eaR y = 25 ∧ 11 < y % 19 + 1 ∨ eaR y = 24 then eaR y + 1 else eaR y
def eaN (y : Int) : Int := if 44 - eaE y < 21 then 74 - eaE y else 44 - eaE y
theorem eaN_bd (y : Int) : 21 ≤ eaN y ∧ eaN y ≤ 49 := by
 have a : 0 ≤ eaR y ∧ eaR y < 30 := by unfold eaR; omega
 unfold eaN eaE
 split <;> split <;> omega
def sun (d : Int) : Int := d + (6 - wk d)
theorem sun_bd (d : Int) : d ≤ sun d ∧ sun d ≤ d + 6 := by unfold sun wk; omega
def east (y : Int) : Int := sun (nb y 3 1 + eaN y)
def EaIs (y n c : Int) : Prop := (1 ≤ y ∧ y ≤ 9999 ∧ east y = n ∧ c = 0) ∨ ((y < 1 ∨ 9999 < y) ∧ n = 0 ∧ c = 3)
theorem ea_val {y n : Int} (h1 : 1 ≤ y) (h2 : y ≤ 9999) (h : east y = n) : EaIs y n 0 := Or.inl ⟨h1, h2, h, rfl⟩
theorem march (y d : Int) : nb y 3 d = ah y + (59 + if lp y = true then 1 else 0) + d := by unfold nb am a0; simp
theorem ea_bd (y : Int) : nb y 3 1 + 21 ≤ east y ∧ east y ≤ nb y 3 1 + 55 := by
 have a := eaN_bd y
 have b := sun_bd (nb y 3 1 + eaN y)
 unfold east
 omega
theorem zFg (y d : Int) (h1 : 1 ≤ y) (h2 : y ≤ 9999) (d1 : 1 ≤ d) (d2 : d ≤ 31) : may y 3 d := ⟨h1, h2, by decide, by decide, d1, by unfold ln l0; simp; exact d2⟩
structure Ru where
 k : Int
 m : Int
 d : Int
 q : Int
 o : Int
 s : Int
 f : Int
 t : Int
def Ru.May (r : Ru) : Prop :=
 (0 ≤ r.k ∧ r.k ≤ 3) ∧ (0 ≤ r.s ∧ r.s ≤ 2) ∧ (1 ≤ r.f ∧ r.f ≤ r.t ∧ r.t ≤ 9999) ∧ (r.k = 3 → -100 ≤ r.o ∧ r.o ≤ 250) ∧ (r.k ≠ 3 → 1 ≤ r.m ∧ r.m ≤ 12) ∧
 (r.k = 0 → 1 ≤ r.d ∧ r.d ≤ ln 2000 r.m) ∧ (r.k = 1 ∨ r.k = 2 → 0 ≤ r.d ∧ r.d ≤ 6) ∧ (r.k = 1 → 1 ≤ r.q ∧ r.q ≤ 5)
instance (r : Ru) : Decidable r.May := by unfold Ru.May; infer_instance
def Ru.mb (r : Ru) : Bool := decide r.May
theorem ru_yes {r : Ru} (h : r.May) : r.mb = true := decide_eq_true h
theorem ru_no {r : Ru} (h : ¬ r.May) : r.mb = false := decide_eq_false h
def nthD (y m d q : Int) : Int := 1 + (d - wk (nb y m 1)) % 7 + 7 * (q - 1)
def zEo (y m d : Int) : Int := ln y m - (wk (nb y m (ln y m)) - d) % 7
def Ru.dd (r : Ru) (y : Int) : Int := if r.k = 0 then r.d else if r.k = 1 then nthD y r.m r.d r.q else zEo y r.m r.d
def Ru.bas (r : Ru) (y : Int) : Int :=
 if y < r.f ∨ r.t < y then 0 else if r.k = 3 then (if 1 ≤ east y + r.o ∧ east y + r.o ≤ 3652059 then east y + r.o else 0)
 else if r.dd y ≤ ln y r.m then nb y r.m (r.dd y) else 0
def shd (s n : Int) : Int := if s = 1 ∧ wk n = 5 then n - 1 else if s = 2 ∧ wk n = 5 then n + 2 else if 0 < s ∧ wk n = 6 then n + 1 else n
def Ru.inn (r : Ru) (y : Int) : Int := if 0 < r.bas y ∧ 1 ≤ shd r.s (r.bas y) ∧ shd r.s (r.bas y) ≤ 3652059 then shd r.s (r.bas y) else 0
def Ru.Is (r : Ru) (n : Int) : Prop := 0 < n ∧ ∃ y, r.inn y = n
theorem shd_bd (s n : Int) : n - 1 ≤ shd s n ∧ shd s n ≤ n + 2 := by unfold shd; omega
theorem dd_one {r : Ru} {y : Int} (h : r.May) (hk : r.k ≠ 3) : 1 ≤ r.dd y := by
 obtain ⟨h1, h2, h3, h4, h5, h6, h7, h8⟩ := h
 have := h5 hk
 have l := zHx y r.m this.1 this.2
 unfold Ru.dd
 by_cases c0 : r.k = 0
 ·rw [if_pos c0]; exact (h6 c0).1
 ·rw [if_neg c0]
  by_cases c1 : r.k = 1
  ·rw [if_pos c1]; have := h8 c1; unfold nthD; omega
  ·rw [if_neg c1]; unfold zEo; omega
theorem zEy {r : Ru} {y : Int} (h : r.May) (hk : r.k ≠ 3) (hy : r.f ≤ y ∧ y ≤ r.t) (hd : r.dd y ≤ ln y r.m) : r.bas y = nb y r.m (r.dd y) ∧ may y r.m (r.dd y) := by
 have h3 := h.2.2.1
 have h5 := h.2.2.2.2.1 hk
 have o := dd_one (y := y) h hk
 refine ⟨?_, by omega, by omega, h5.1, h5.2, o, hd⟩
 unfold Ru.bas
 rw [if_neg (by omega), if_neg hk, if_pos hd]
theorem zGi {r : Ru} {y : Int} (hk : r.k ≠ 3) (hy : r.f ≤ y ∧ y ≤ r.t) (hd : ln y r.m < r.dd y) : r.bas y = 0 := by
 unfold Ru.bas
 rw [if_neg (by omega), if_neg hk, if_neg (by omega)]
theorem zIw {r : Ru} {y : Int} (hy : y < r.f ∨ r.t < y) : r.bas y = 0 := by
 unfold Ru.bas
 rw [if_pos hy]
theorem zEr {r : Ru} {y : Int} (hk : r.k = 3) (hy : r.f ≤ y ∧ y ≤ r.t) (h : 1 ≤ east y + r.o ∧ east y + r.o ≤ 3652059) : r.bas y = east y + r.o := by
 unfold Ru.bas
 rw [if_neg (by omega), if_pos hk, if_pos h]
theorem zEs {r : Ru} {y : Int} (hk : r.k = 3) (hy : r.f ≤ y ∧ y ≤ r.t) (h : ¬ (1 ≤ east y + r.o ∧ east y + r.o ≤ 3652059)) : r.bas y = 0 := by
 unfold Ru.bas
 rw [if_neg (by omega), if_pos hk, if_neg h]
theorem bas_bd {r : Ru} (y : Int) (h : r.May) : 0 ≤ r.bas y ∧ r.bas y ≤ 3652059 := by
 by_cases hy : y < r.f ∨ r.t < y
 ·rw [zIw hy]; decide
 ·by_cases hk : r.k = 3
  ·by_cases he : 1 ≤ east y + r.o ∧ east y + r.o ≤ 3652059
   ·rw [zEr hk (by omega) he]; omega
   ·rw [zEs hk (by omega) he]; decide
  ·by_cases hd : r.dd y ≤ ln y r.m
   ·have a := zEy h hk (by omega) hd
    have b := zC8 _ _ _ a.2
    rw [a.1]; omega
   ·rw [zGi hk (by omega) (by omega)]; decide
theorem inn_bd {r : Ru} (y : Int) : 0 ≤ r.inn y ∧ r.inn y ≤ 3652059 := by unfold Ru.inn; split <;> omega
theorem inn_year {r : Ru} {y : Int} (h : 0 < r.inn y) : 0 < r.bas y ∧ r.inn y = shd r.s (r.bas y) := by
 unfold Ru.inn at h ⊢
 by_cases c : 0 < r.bas y ∧ 1 ≤ shd r.s (r.bas y) ∧ shd r.s (r.bas y) ≤ 3652059
 ·rw [if_pos c] at h ⊢; exact ⟨c.1, rfl⟩
 ·rw [if_neg c] at h; omega
theorem inn_out {r : Ru} {y : Int} (h : r.bas y = 0) : r.inn y = 0 := by
 unfold Ru.inn
 rw [if_neg (by omega)]
theorem bas_held {r : Ru} {y : Int} (h : 0 < r.bas y) : r.f ≤ y ∧ y ≤ r.t := by
 by_cases hy : y < r.f ∨ r.t < y
 ·rw [zIw hy] at h; omega
 ·omega
theorem bas_near {r : Ru} {y : Int} (h : r.May) (hb : 0 < r.bas y) : ah y - 20 < r.bas y ∧ r.bas y ≤ ah y + 366 := by
 have hy := bas_held hb
 have h3 := h.2.2.1
 by_cases hk : r.k = 3
 ·have ho := h.2.2.2.1 hk
  by_cases he : 1 ≤ east y + r.o ∧ east y + r.o ≤ 3652059
  ·rw [zEr hk hy he]
   have b := ea_bd y
   have m := march y 1
   have : (if lp y = true then (1 : Int) else 0) = 0 ∨ (if lp y = true then (1 : Int) else 0) = 1 := by split <;> simp
   omega
  ·rw [zEs hk hy he] at hb; omega
 ·by_cases hd : r.dd y ≤ ln y r.m
  ·have a := zEy h hk hy hd
   rw [a.1]
   have i := zBi _ _ _ a.2
   have l := zRu y
   unfold nb
   omega
  ·rw [zGi hk hy (by omega)] at hb; omega
theorem is_near {r : Ru} {y n Y M D : Int} (h : r.May) (hn : 0 < n) (hi : r.inn y = n) (hd : may Y M D) (hN : nb Y M D = n) : Y - 1 ≤ y ∧ y ≤ Y + 1 := by
 have a := inn_year (r := r) (y := y) (by omega)
 have b := bas_near h a.1
 have s := shd_bd r.s (r.bas y)
 have i := zBi _ _ _ hd
 have l := zRu Y
 unfold nb at hN
 have e1 : y ≤ Y + 1 ∨ Y + 2 ≤ y := by omega
 have e2 : Y - 1 ≤ y ∨ y + 2 ≤ Y := by omega
 refine ⟨?_, ?_⟩
 ·rcases e2 with e | e
  ·exact e
  ·have := zNp y Y (by omega); omega
 ·rcases e1 with e | e
  ·exact e
  ·have p := zNp (Y + 1) y (by omega)
   have q := zDb Y
   omega
theorem last_wk {y m d : Int} (h : 0 ≤ d ∧ d ≤ 6) : wk (nb y m (zEo y m d)) = d ∧ zEo y m d ≤ ln y m ∧ ln y m < zEo y m d + 7 := by
 have e : nb y m (zEo y m d) = nb y m (ln y m) - (ln y m - zEo y m d) := by unfold nb; omega
 rw [e]
 unfold zEo wk
 omega
structure Ca where
 o : Nat → Bool
 nr : Nat
 R : Nat → Ru
 nd : Nat
 X : Nat → Int
def Ca.May (c : Ca) : Prop := (∃ i, i < 7 ∧ c.o i = false) ∧ c.nr ≤ 100 ∧ c.nd ≤ 1000 ∧ (∀ j, j < c.nr → (c.R j).May) ∧ (∀ j, j < c.nd → 1 ≤ c.X j ∧ c.X j ≤ 3652059) ∧ ∀ j, j + 1 < c.nd → c.X j < c.X (j + 1)
def Ca.Is (c : Ca) (n : Int) : Prop := (1 ≤ n ∧ n ≤ 3652059) ∧ c.o (wk n).toNat = false ∧ (∀ j, j < c.nd → c.X j ≠ n) ∧ ∀ j, j < c.nr → ¬ (c.R j).Is n
def Ca.Small (c : Ca) : Prop := c.nr ≤ 200 ∧ c.nd ≤ 2000
theorem wk_bd (n : Int) : 0 ≤ wk n ∧ wk n ≤ 6 := by unfold wk; omega
theorem wk_nat (n : Int) : ∃ v : Nat, wk n = v ∧ v < 7 := ⟨(wk n).toNat, by have := wk_bd n; omega, by have := wk_bd n; omega⟩
theorem zB2 {b : Bool} {P : Prop} (h : b = true ↔ P) (hP : ¬ P) : b = false := by
 cases b
 ·rfl
 ·exact absurd (h.1 rfl) hP
open Classical in
theorem zIx (P : Prop) : ∃ b : Bool, (b = true ↔ P) := ⟨decide P, by simp⟩
theorem Ca.May.rules {c : Ca} (h : c.May) : ∀ j, j < c.nr → (c.R j).May := by obtain ⟨_, _, _, h, _, _⟩ := h; exact h
def dy (n : Int) : Prop := 1 ≤ n ∧ n ≤ 3652059
end Go.Proofs.YtpfgdfpaoldhcaaGreatDoor
namespace Go.Proofs.YtpfgdfpaoldhcaaGreatDoor
def StepIs (c : Ca) (s n v e : Int) : Prop :=
 (¬ dy n ∧ v = 0 ∧ e = 3) ∨ (dy n ∧ ∃ k : Nat, k ≤ 60 ∧ v = n + s * k ∧ c.Is v ∧ (∀ l : Nat, l < k → ¬ c.Is (n + s * l)) ∧ e = 0) ∨
 (dy n ∧ (∀ l : Nat, l ≤ 60 → ¬ c.Is (n + s * l)) ∧ v = 0 ∧ ((dy (n + s * 60) ∧ e = 8) ∨ (¬ dy (n + s * 60) ∧ e = 3)))
theorem least {P : Nat → Prop} : ∀ k : Nat, P k → ∃ j, j ≤ k ∧ P j ∧ ∀ l, l < j → ¬ P l := by
 intro k
 induction k using Nat.strongRecOn with
 | ind k ih =>
  intro h
  by_cases g : ∃ l, l < k ∧ P l
  ·obtain ⟨l, hl, pl⟩ := g
   obtain ⟨j, j1, j2, j3⟩ := ih l hl pl
   exact ⟨j, by omega, j2, j3⟩
  ·exact ⟨k, Nat.le_refl _, h, fun l hl p => g ⟨l, hl, p⟩⟩
theorem zH9 (c : Ca) (s n : Int) : ∃ v e, StepIs c s n v e := by
 by_cases hn : dy n
 ·by_cases h : ∃ k : Nat, k ≤ 60 ∧ c.Is (n + s * k)
  ·obtain ⟨k, h1, h2⟩ := h
   obtain ⟨j, j1, j2, j3⟩ := least (P := fun k : Nat => c.Is (n + s * k)) k h2
   exact ⟨_, 0, Or.inr (Or.inl ⟨hn, j, by omega, rfl, j2, j3, rfl⟩)⟩
  ·have g : ∀ l : Nat, l ≤ 60 → ¬ c.Is (n + s * l) := fun l hl hi => h ⟨l, hl, hi⟩
   by_cases d : dy (n + s * 60)
   ·exact ⟨0, 8, Or.inr (Or.inr ⟨hn, g, rfl, Or.inl ⟨d, rfl⟩⟩)⟩
   ·exact ⟨0, 3, Or.inr (Or.inr ⟨hn, g, rfl, Or.inr ⟨d, rfl⟩⟩)⟩
 ·exact ⟨0, 3, Or.inl ⟨hn, rfl, rfl⟩⟩
theorem StepIs.zero {c : Ca} {s n v e : Int} (h : StepIs c s n v e) (he : e ≠ 0) : v = 0 := by
 rcases h with ⟨_, h, _⟩ | ⟨_, k, _, _, _, _, h⟩ | ⟨_, _, h, _⟩
 ·exact h
 ·exact absurd h he
 ·exact h
theorem StepIs.good {c : Ca} {s n v e : Int} (h : StepIs c s n v e) (he : e = 0) : dy n ∧ c.Is v ∧ ∃ k : Nat, k ≤ 60 ∧ v = n + s * k ∧ ∀ l : Nat, l < k → ¬ c.Is (n + s * l) := by
 rcases h with ⟨_, _, h⟩ | ⟨hn, k, k1, k2, k3, k4, h⟩ | ⟨_, _, _, ⟨_, h⟩ | ⟨_, h⟩⟩
 ·omega
 ·exact ⟨hn, k3, k, k1, k2, k4⟩
 ·omega
 ·omega
theorem StepIs.bad {c : Ca} {s n v e : Int} (h : StepIs c s n v e) (he : e ≠ 0) (hn : dy n) : ∀ l : Nat, l ≤ 60 → ¬ c.Is (n + s * l) := by
 rcases h with ⟨h, _, _⟩ | ⟨_, k, _, _, _, _, h⟩ | ⟨_, h, _, _⟩
 ·exact absurd hn h
 ·exact absurd h he
 ·exact h
theorem StepIs.stay {c : Ca} {s n : Int} (h : c.Is n) : StepIs c s n n 0 :=
 Or.inr (Or.inl ⟨h.1, 0, by omega, by rw [show ((0 : Nat) : Int) = 0 from rfl, Int.mul_zero, Int.add_zero], h, fun l hl => absurd hl (Nat.not_lt_zero _), rfl⟩)
theorem StepIs.same {c : Ca} {s n v e v' e' : Int} (h : StepIs c s n v e) (g : StepIs c s n v' e') : v = v' ∧ e = e' := by
 rcases h with ⟨h0, h1, h2⟩ | ⟨h0, k, h1, h2, h3, h4, h5⟩ | ⟨h0, h1, h2, h3⟩ <;> rcases g with ⟨g0, g1, g2⟩ | ⟨g0, j, g1, g2, g3, g4, g5⟩ | ⟨g0, g1, g2, g3⟩
 ·exact ⟨h1.trans g1.symm, h2.trans g2.symm⟩
 ·exact absurd g0 h0
 ·exact absurd g0 h0
 ·exact absurd h0 g0
 ·have e : k = j := by
   rcases Nat.lt_trichotomy k j with l | l | l
   ·rw [h2] at h3; exact absurd h3 (g4 k l)
   ·exact l
   ·rw [g2] at g3; exact absurd g3 (h4 j l)
  subst e
  exact ⟨h2.trans g2.symm, h5.trans g5.symm⟩
 ·rw [h2] at h3; exact absurd h3 (g1 k h1)
 ·exact absurd h0 g0
 ·rw [g2] at g3; exact absurd g3 (h1 j g1)
 ·refine ⟨h2.trans g2.symm, ?_⟩
  rcases h3 with ⟨a, b⟩ | ⟨a, b⟩ <;> rcases g3 with ⟨x, y⟩ | ⟨x, y⟩
  ·exact b.trans y.symm
  ·exact absurd a x
  ·exact absurd x a
  ·exact b.trans y.symm
def zEq (n a : Int) : Prop := ∃ y m d d', (may y m d ∧ nb y m d = n) ∧ may y m d' ∧ nb y m d' = a
theorem same_iff {n a y m d y' m' d' : Int} (h : may y m d) (hn : nb y m d = n) (g : may y' m' d') (ga : nb y' m' d' = a) : zEq n a ↔ y' = y ∧ m' = m := by
 constructor
 ·rintro ⟨u, v, x, x', ⟨h1, h2⟩, h3, h4⟩
  obtain ⟨rfl, rfl, _⟩ := nb_inj y m d u v x h h1 (hn.trans h2.symm)
  obtain ⟨rfl, rfl, _⟩ := nb_inj _ _ _ _ _ _ g h3 (ga.trans h4.symm)
  exact ⟨rfl, rfl⟩
 ·rintro ⟨rfl, rfl⟩
  exact ⟨_, _, d, d', ⟨h, hn⟩, g, ga⟩
theorem zQu {n : Int} (h : dy n) : zEq n n := by
 obtain ⟨y, m, d, h1, h2⟩ := zBg n h.1 h.2
 exact ⟨y, m, d, d, ⟨h1, h2⟩, h1, h2⟩
def ModIs (c : Ca) (s t n v e : Int) : Prop := ∃ a f, StepIs c s n a f ∧ (((f ≠ 0 ∨ zEq n a) ∧ v = a ∧ e = f) ∨ ((f = 0 ∧ ¬ zEq n a) ∧ StepIs c t n v e))
theorem mod_is (c : Ca) (s t n : Int) : ∃ v e, ModIs c s t n v e := by
 obtain ⟨a, f, h⟩ := zH9 c s n
 obtain ⟨v, e, g⟩ := zH9 c t n
 by_cases hf : f = 0
 ·by_cases hs : zEq n a
  ·exact ⟨a, f, a, f, h, Or.inl ⟨Or.inr hs, rfl, rfl⟩⟩
  ·exact ⟨v, e, a, f, h, Or.inr ⟨⟨hf, hs⟩, g⟩⟩
 ·exact ⟨a, f, a, f, h, Or.inl ⟨Or.inl hf, rfl, rfl⟩⟩
def ToIs (c : Ca) (n k v e : Int) : Prop :=
 (k = 0 ∧ ((dy n ∧ v = n ∧ e = 0) ∨ (¬ dy n ∧ v = 0 ∧ e = 3))) ∨ (k = 1 ∧ StepIs c 1 n v e) ∨ (k = 2 ∧ ModIs c 1 (-1) n v e) ∨ (k = 3 ∧ StepIs c (-1) n v e) ∨ (k = 4 ∧ ModIs c (-1) 1 n v e) ∨ ((k < 0 ∨ 4 < k) ∧ v = 0 ∧ e = 1)
theorem zNf (c : Ca) (n k : Int) : ∃ v e, ToIs c n k v e := by
 by_cases h0 : k = 0
 ·by_cases hd : dy n
  ·exact ⟨n, 0, Or.inl ⟨h0, Or.inl ⟨hd, rfl, rfl⟩⟩⟩
  ·exact ⟨0, 3, Or.inl ⟨h0, Or.inr ⟨hd, rfl, rfl⟩⟩⟩
 by_cases h1 : k = 1
 ·obtain ⟨v, e, h⟩ := zH9 c 1 n
  exact ⟨v, e, Or.inr (Or.inl ⟨h1, h⟩)⟩
 by_cases h2 : k = 2
 ·obtain ⟨v, e, h⟩ := mod_is c 1 (-1) n
  exact ⟨v, e, Or.inr (Or.inr (Or.inl ⟨h2, h⟩))⟩
 by_cases h3 : k = 3
 ·obtain ⟨v, e, h⟩ := zH9 c (-1) n
  exact ⟨v, e, Or.inr (Or.inr (Or.inr (Or.inl ⟨h3, h⟩)))⟩
 by_cases h4 : k = 4
 ·obtain ⟨v, e, h⟩ := mod_is c (-1) 1 n
  exact ⟨v, e, Or.inr (Or.inr (Or.inr (Or.inr (Or.inl ⟨h4, h⟩))))⟩
 exact ⟨0, 1, Or.inr (Or.inr (Or.inr (Or.inr (Or.inr ⟨by omega, rfl, rfl⟩))))⟩
theorem ModIs.good {c : Ca} {s t n v e : Int} (h : ModIs c s t n v e) : (e = 0 → c.Is v) ∧ (e ≠ 0 → v = 0) := by
 obtain ⟨a, f, h1, ⟨_, rfl, rfl⟩ | ⟨_, h2⟩⟩ := h
 ·exact ⟨fun g => (h1.good g).2.1, fun g => h1.zero g⟩
 ·exact ⟨fun g => (h2.good g).2.1, fun g => h2.zero g⟩
theorem ModIs.stay {c : Ca} {s t n : Int} (h : c.Is n) : ModIs c s t n n 0 := ⟨n, 0, .stay h, Or.inl ⟨Or.inr (zQu h.1), rfl, rfl⟩⟩
theorem ModIs.same {c : Ca} {s t n v e v' e' : Int} (h : ModIs c s t n v e) (g : ModIs c s t n v' e') : v = v' ∧ e = e' := by
 obtain ⟨a, f, h1, h2⟩ := h
 obtain ⟨a', f', g1, g2⟩ := g
 obtain ⟨rfl, rfl⟩ := h1.same g1
 rcases h2 with ⟨x, rfl, rfl⟩ | ⟨x, h2⟩ <;> rcases g2 with ⟨y, rfl, rfl⟩ | ⟨y, g2⟩
 ·exact ⟨rfl, rfl⟩
 ·rcases x with x | x
  ·exact absurd y.1 x
  ·exact absurd x y.2
 ·rcases y with y | y
  ·exact absurd x.1 y
  ·exact absurd y x.2
 ·exact h2.same g2
theorem ToIs.stay {c : Ca} {n k : Int} (h : c.Is n) (k0 : 0 ≤ k) (k4 : k ≤ 4) : ToIs c n k n 0 := by
 rcases (show k = 0 ∨ k = 1 ∨ k = 2 ∨ k = 3 ∨ k = 4 by omega) with rfl | rfl | rfl | rfl | rfl
 ·exact Or.inl ⟨rfl, Or.inl ⟨h.1, rfl, rfl⟩⟩
 ·exact Or.inr (Or.inl ⟨rfl, .stay h⟩)
 ·exact Or.inr (Or.inr (Or.inl ⟨rfl, .stay h⟩))
 ·exact Or.inr (Or.inr (Or.inr (Or.inl ⟨rfl, .stay h⟩)))
 ·exact Or.inr (Or.inr (Or.inr (Or.inr (Or.inl ⟨rfl, .stay h⟩))))
theorem ToIs.same {c : Ca} {n k v e v' e' : Int} (h : ToIs c n k v e) (g : ToIs c n k v' e') : v = v' ∧ e = e' := by
 rcases h with ⟨h0, h1⟩ | ⟨h0, h1⟩ | ⟨h0, h1⟩ | ⟨h0, h1⟩ | ⟨h0, h1⟩ | ⟨h0, h1, h2⟩ <;> rcases g with ⟨g0, g1⟩ | ⟨g0, g1⟩ | ⟨g0, g1⟩ | ⟨g0, g1⟩ | ⟨g0, g1⟩ | ⟨g0, g1, g2⟩ <;> first | (exfalso; omega) | exact h1.same g1 | skip
 ·rcases h1 with ⟨a, b, c⟩ | ⟨a, b, c⟩ <;> rcases g1 with ⟨x, y, z⟩ | ⟨x, y, z⟩
  ·exact ⟨b.trans y.symm, c.trans z.symm⟩
  ·exact absurd a x
  ·exact absurd x a
  ·exact ⟨b.trans y.symm, c.trans z.symm⟩
 ·exact ⟨h1.trans g1.symm, h2.trans g2.symm⟩
theorem ToIs.zero {c : Ca} {n k v e : Int} (h : ToIs c n k v e) (he : e ≠ 0) : v = 0 := by
 rcases h with ⟨_, ⟨_, _, h⟩ | ⟨_, h, _⟩⟩ | ⟨_, h⟩ | ⟨_, h⟩ | ⟨_, h⟩ | ⟨_, h⟩ | ⟨_, h, _⟩
 ·exact absurd h he
 ·exact h
 ·exact h.zero he
 ·exact h.good.2 he
 ·exact h.zero he
 ·exact h.good.2 he
 ·exact h
theorem ToIs.one {c : Ca} {n k v e a ea b eb : Int} (h : ToIs c n k v e) (he : e = 0) (ha : StepIs c 1 n a ea) (hb : StepIs c (-1) n b eb) : (k = 0 ∧ v = n) ∨ (v = a ∧ ea = 0) ∨ (v = b ∧ eb = 0) := by
 rcases h with ⟨h0, ⟨_, b, _⟩ | ⟨_, _, h⟩⟩ | ⟨_, h⟩ | ⟨_, x, f, h, ⟨_, rfl, rfl⟩ | ⟨_, g⟩⟩ | ⟨_, h⟩ | ⟨_, x, f, h, ⟨_, rfl, rfl⟩ | ⟨_, g⟩⟩ | ⟨_, _, h⟩
 ·exact Or.inl ⟨h0, b⟩
 ·omega
 ·obtain ⟨rfl, rfl⟩ := h.same ha; exact Or.inr (Or.inl ⟨rfl, he⟩)
 ·obtain ⟨rfl, rfl⟩ := h.same ha; exact Or.inr (Or.inl ⟨rfl, he⟩)
 ·obtain ⟨rfl, rfl⟩ := g.same hb; exact Or.inr (Or.inr ⟨rfl, he⟩)
 ·obtain ⟨rfl, rfl⟩ := h.same hb; exact Or.inr (Or.inr ⟨rfl, he⟩)
 ·obtain ⟨rfl, rfl⟩ := h.same hb; exact Or.inr (Or.inr ⟨rfl, he⟩)
 ·obtain ⟨rfl, rfl⟩ := g.same ha; exact Or.inr (Or.inl ⟨rfl, he⟩)
 ·omega
theorem ModIs.code {c : Ca} {s t n v e a f : Int} (h : ModIs c s t n v e) (g : StepIs c s n a f) (hf : f ≠ 0) : e = f := by
 obtain ⟨x, y, h1, ⟨_, rfl, rfl⟩ | ⟨h2, _⟩⟩ := h
 ·exact (h1.same g).2
 ·obtain ⟨rfl, rfl⟩ := h1.same g
  exact absurd h2.1 hf
theorem ModIs.both {c : Ca} {s t n v e a b : Int} (h : ModIs c s t n v e) (g : StepIs c s n a 0) (k : StepIs c t n b 0) : e = 0 ∧ (zEq n a → v = a) ∧ (¬ zEq n a → v = b) := by
 obtain ⟨x, y, h1, ⟨h2, rfl, rfl⟩ | ⟨h2, h3⟩⟩ := h
 ·obtain ⟨rfl, rfl⟩ := h1.same g
  rcases h2 with h2 | h2
  ·exact absurd rfl h2
  ·exact ⟨rfl, fun _ => rfl, fun z => absurd h2 z⟩
 ·obtain ⟨rfl, _⟩ := h1.same g
  obtain ⟨rfl, rfl⟩ := h3.same k
  exact ⟨rfl, fun z => absurd z h2.2, fun _ => rfl⟩
def rn (k : Int) : ByteArray := if k = 0 then ⟨#[110, 111, 110, 101]⟩ else if k = 1 then ⟨#[102, 111, 108, 108, 111, 119, 105, 110, 103]⟩ else if k = 2 then ⟨#[109, 111, 100, 102, 111, 108, 108, 111, 119, 105, 110, 103]⟩ else if k = 3 then ⟨#[112, 114, 101, 99, 101, 100, 105, 110, 103]⟩ else if k = 4 then ⟨#[109, 111, 100, 112, 114, 101, 99, 101, 100, 105, 110, 103]⟩ else ⟨#[]⟩
theorem rn_out (k : Int) (h : k < 0 ∨ 4 < k) : rn k = ⟨#[]⟩ := by
 unfold rn
 rw [if_neg (by omega), if_neg (by omega), if_neg (by omega), if_neg (by omega), if_neg (by omega)]
theorem of5 (k : Int) (h : 0 ≤ k ∧ k ≤ 4) : k = 0 ∨ k = 1 ∨ k = 2 ∨ k = 3 ∨ k = 4 := by omega
theorem rn_0 : rn 0 = ⟨#[110, 111, 110, 101]⟩ := by simp [rn]
theorem rn_1 : rn 1 = ⟨#[102, 111, 108, 108, 111, 119, 105, 110, 103]⟩ := by simp [rn]
theorem rn_2 : rn 2 = ⟨#[109, 111, 100, 102, 111, 108, 108, 111, 119, 105, 110, 103]⟩ := by simp [rn]
theorem rn_3 : rn 3 = ⟨#[112, 114, 101, 99, 101, 100, 105, 110, 103]⟩ := by simp [rn]
theorem rn_4 : rn 4 = ⟨#[109, 111, 100, 112, 114, 101, 99, 101, 100, 105, 110, 103]⟩ := by simp [rn]
def dm (b : Bool) (y m d Y M : Int) : Int := if b = true ∧ d = ln y m then ln Y M else min d (ln Y M)
theorem zOp (b : Bool) (y m d Y M : Int) (h : may y m d) (h1 : 1 ≤ Y) (h2 : Y ≤ 9999) (h3 : 1 ≤ M) (h4 : M ≤ 12) : may Y M (dm b y m d Y M) := by
 obtain ⟨a1, a2, a3, a4, a5, a6⟩ := h
 have := zHx Y M h3 h4
 refine ⟨h1, h2, h3, h4, ?_, ?_⟩ <;> (unfold dm; split <;> omega)
def zCj (n k : Int) (b : Bool) (r e : Int) : Prop :=
 (∃ y m d Y M : Int, may y m d ∧ nb y m d = n ∧ 1 ≤ Y ∧ Y ≤ 9999 ∧ 1 ≤ M ∧ M ≤ 12 ∧ 12 * Y + M = 12 * y + m + k ∧ nb Y M (dm b y m d Y M) = r ∧ e = 0)
 ∨ ((∃ y m d : Int, may y m d ∧ nb y m d = n ∧ (12 * y + m + k < 13 ∨ 120000 < 12 * y + m + k)) ∧ r = 0 ∧ e = 3)
 ∨ ((n < 1 ∨ 3652059 < n) ∧ r = 0 ∧ e = 3)
theorem zGu {n k r : Int} {b : Bool} (y m d Y M D : Int) (h : may y m d) (hn : nb y m d = n) (h1 : 1 ≤ Y) (h2 : Y ≤ 9999) (h3 : 1 ≤ M) (h4 : M ≤ 12)
  (hk : 12 * Y + M = 12 * y + m + k) (hD : dm b y m d Y M = D) (hr : nb Y M D = r) : zCj n k b r 0 :=
 Or.inl ⟨y, m, d, Y, M, h, hn, h1, h2, h3, h4, hk, by rw [hD, hr], rfl⟩
theorem zLg {n k : Int} {b : Bool} (y m d : Int) (h : may y m d) (hn : nb y m d = n) (hk : 12 * y + m + k < 13 ∨ 120000 < 12 * y + m + k) : zCj n k b 0 3 :=
 Or.inr (Or.inl ⟨⟨y, m, d, h, hn, hk⟩, rfl, rfl⟩)
theorem move_out {n k : Int} {b : Bool} (h : n < 1 ∨ 3652059 < n) : zCj n k b 0 3 := Or.inr (Or.inr ⟨h, rfl, rfl⟩)
def EndIs (n r e : Int) : Prop := (∃ y m d : Int, may y m d ∧ nb y m d = n ∧ nb y m (ln y m) = r ∧ e = 0) ∨ ((n < 1 ∨ 3652059 < n) ∧ r = 0 ∧ e = 3)
theorem end_in {n r : Int} (y m d : Int) (h : may y m d) (hn : nb y m d = n) (hr : nb y m (ln y m) = r) : EndIs n r 0 := Or.inl ⟨y, m, d, h, hn, hr, rfl⟩
def zHb (n : Int) (b : Bool) : Prop := (∃ y m d : Int, may y m d ∧ nb y m d = n ∧ b = decide (d = ln y m)) ∨ ((n < 1 ∨ 3652059 < n) ∧ b = false)
theorem zJn {n : Int} {b : Bool} (y m d : Int) (h : may y m d) (hn : nb y m d = n) (hb : decide (d = ln y m) = b) : zHb n b := Or.inl ⟨y, m, d, h, hn, hb.symm⟩
theorem end_may (y m d : Int) (h : may y m d) : may y m (ln y m) := by
 obtain ⟨a1, a2, a3, a4, a5, a6⟩ := h
 have := zHx y m a3 a4
 exact ⟨a1, a2, a3, a4, by omega, Int.le_refl _⟩
def px (y1 m1 d1 y2 m2 d2 : Int) : Int := if 360 * (y2 - y1) + 30 * (m2 - m1) + (d2 - d1) < 0 then 0 else 360 * (y2 - y1) + 30 * (m2 - m1) + (d2 - d1)
def cutD (d : Int) : Int := if d = 31 then 30 else d
def fulD (y m d : Int) : Int := if d = ln y m then 30 else d
def febB (y m d : Int) : Bool := decide (m = 2 ∧ d = ln y m)
def usA (t f1 : Bool) (d1 : Int) : Int := if t = true ∧ f1 = true then 30 else d1
def usB (t f1 f2 : Bool) (d2 : Int) : Int := if t = true ∧ f1 = true ∧ f2 = true then 30 else d2
def usC (a b : Int) : Int := if b = 31 ∧ (a = 30 ∨ a = 31) then 30 else b
def uX (t : Bool) (y1 m1 d1 y2 m2 d2 : Int) : Int :=
 px y1 m1 (cutD (usA t (febB y1 m1 d1) d1)) y2 m2 (usC (usA t (febB y1 m1 d1) d1) (usB t (febB y1 m1 d1) (febB y2 m2 d2) d2))
def eX (y1 m1 d1 y2 m2 d2 : Int) : Int := px y1 m1 (cutD d1) y2 m2 (cutD d2)
def isB (t : Bool) (y m d : Int) : Int := if d = ln y m ∧ ¬ (t = true ∧ m = 2) then 30 else d
def iX (t : Bool) (y1 m1 d1 y2 m2 d2 : Int) : Int := px y1 m1 (fulD y1 m1 d1) y2 m2 (isB t y2 m2 d2)
def zBm (X : Int → Int → Int → Int → Int → Int → Int) (a b p q c : Int) : Prop :=
 (∃ y1 m1 d1 y2 m2 d2 : Int, may y1 m1 d1 ∧ nb y1 m1 d1 = a ∧ may y2 m2 d2 ∧ nb y2 m2 d2 = b ∧ a ≤ b ∧ rN (X y1 m1 d1 y2 m2 d2) 360 = p ∧ rD (X y1 m1 d1 y2 m2 d2) 360 = q ∧ c = 0)
 ∨ (((a < 1 ∨ 3652059 < a) ∨ (b < 1 ∨ 3652059 < b)) ∧ p = 0 ∧ q = 0 ∧ c = 3)
 ∨ ((1 ≤ a ∧ a ≤ 3652059) ∧ (1 ≤ b ∧ b ≤ 3652059) ∧ b < a ∧ p = 0 ∧ q = 0 ∧ c = 4)
theorem zJv (X : Int → Int → Int → Int → Int → Int → Int) (a b : Int) : ∃ p q c, zBm X a b p q c := by
 by_cases h1 : (a < 1 ∨ 3652059 < a) ∨ (b < 1 ∨ 3652059 < b)
 ·exact ⟨0, 0, 3, Or.inr (Or.inl ⟨h1, rfl, rfl, rfl⟩)⟩
 ·by_cases h2 : b < a
  ·exact ⟨0, 0, 4, Or.inr (Or.inr ⟨by omega, by omega, h2, rfl, rfl, rfl⟩)⟩
  ·obtain ⟨y1, m1, d1, a1, a2⟩ := zBg a (by omega) (by omega)
   obtain ⟨y2, m2, d2, b1, b2⟩ := zBg b (by omega) (by omega)
   exact ⟨_, _, 0, Or.inl ⟨y1, m1, d1, y2, m2, d2, a1, a2, b1, b2, by omega, rfl, rfl, rfl⟩⟩
theorem px_bd (y1 m1 d1 y2 m2 d2 : Int) (a1 : 1 ≤ y1) (a2 : y1 ≤ 9999) (b1 : 1 ≤ y2) (b2 : y2 ≤ 9999) (c1 : 1 ≤ m1) (c2 : m1 ≤ 12) (e1 : 1 ≤ m2) (e2 : m2 ≤ 12) (f1 : 0 ≤ d1) (f2 : d1 ≤ 31) (g1 : 0 ≤ d2) (g2 : d2 ≤ 31) :
  0 ≤ px y1 m1 d1 y2 m2 d2 ∧ px y1 m1 d1 y2 m2 d2 ≤ 3700000 := by
 unfold px; split <;> omega
theorem zBt (x : Int) (h0 : 0 ≤ x) (h : x ≤ 3700000) : fitB x 360 = true := by
 rw [zCo]
 have := m_le x 360 h0 (by decide)
 omega
end Go.Proofs.YtpfgdfpaoldhcaaGreatDoor
namespace Go.Proofs.YtpfgdfpaoldhcaaGreatDoor
open Go.RowKit
theorem zIe (y : Int) (w : World) : Calls Tryz.prog 84 #[.int .i64 y] w fun e w' => e = .returned (.bool (lp y)) ∧ w = w' := by
 have b1 := zCh y 4 (by decide)
 have b2 := zCh y 100 (by decide)
 have b3 := zCh y 400 (by decide)
 have e1 := zNe y 4
 have e2 := zNe y 100
 have e3 := zNe y 400
 obtain ⟨b, hb⟩ : ∃ b, lp y = b := ⟨_, rfl⟩
 have hl := zFe y
 rw [hb] at hl ⊢
 go_enter Tryz.func84, Tryz.ntmps84
 go_wp2
 all_goals (go_ret; refine ⟨retB ?_, rfl⟩; rw [Bool.eq_iff_iff, hl]; (try simp only [beq_iff_eq, beq_eq_false_iff_ne, ne_eq] at *); (try simp only [Bool.or_eq_true, Bool.and_eq_true, beq_iff_eq, bne_iff_ne, ne_eq, true_iff, Bool.false_eq_true, false_iff]); omega)
theorem zDf (y m : Int) (w : World) : Calls Tryz.prog 75 #[.int .i64 y, .int .i64 m] w fun e w' => e = .returned (.int .i64 (ln y m)) ∧ w = w' := by
 by_cases h : m < 1 ∨ 12 < m
 ·rw [zLc y m h]
  have t1 : (m == 1) = false := beq_eq_false_iff_ne.2 (by omega)
  have t2 : (m == 2) = false := beq_eq_false_iff_ne.2 (by omega)
  have t3 : (m == 3) = false := beq_eq_false_iff_ne.2 (by omega)
  have t4 : (m == 4) = false := beq_eq_false_iff_ne.2 (by omega)
  have t5 : (m == 5) = false := beq_eq_false_iff_ne.2 (by omega)
  have t6 : (m == 6) = false := beq_eq_false_iff_ne.2 (by omega)
  have t7 : (m == 7) = false := beq_eq_false_iff_ne.2 (by omega)
  have t8 : (m == 8) = false := beq_eq_false_iff_ne.2 (by omega)
  have t9 : (m == 9) = false := beq_eq_false_iff_ne.2 (by omega)
  have ta : (m == 10) = false := beq_eq_false_iff_ne.2 (by omega)
  have tb : (m == 11) = false := beq_eq_false_iff_ne.2 (by omega)
  have tc : (m == 12) = false := beq_eq_false_iff_ne.2 (by omega)
  clear h
  go_enter Tryz.func75, Tryz.ntmps75
  go_wp2
  go_ret
  exact ⟨rfl, rfl⟩
 ·by_cases h2 : m = 2
  ·subst h2
   obtain ⟨b, hb⟩ : ∃ b, lp y = b := ⟨_, rfl⟩
   have C := zIe y
   rw [hb] at C
   have hl : ln y 2 = if b = true then 29 else 28 := by unfold ln l0; rw [hb]; simp
   rw [hl]
   clear hl h
   have CC := Lib.hid C
   clear C
   go_enter Tryz.func75, Tryz.ntmps75
   go_wp2_with fail
   (with_reducible refine (CC.out _).mono ?_)
   rintro e w1 ⟨rfl, rfl⟩
   cases b
   ·go_wp2
    go_ret
    exact ⟨rfl, rfl⟩
   ·go_wp2
    go_ret
    exact ⟨rfl, rfl⟩
  ·have hm : m = 1 ∨ m = 3 ∨ m = 4 ∨ m = 5 ∨ m = 6 ∨ m = 7 ∨ m = 8 ∨ m = 9 ∨ m = 10 ∨ m = 11 ∨ m = 12 := by omega
   have hl : ln y m = l0 m := by unfold ln; rw [if_neg (by omega)]
   rw [hl]
   clear h h2 hl
   rcases hm with rfl | rfl | rfl | rfl | rfl | rfl | rfl | rfl | rfl | rfl | rfl
   all_goals
    go_enter Tryz.func75, Tryz.ntmps75
    go_wp2
    go_ret
    exact ⟨rfl, rfl⟩
theorem zLo (y m d : Int) (w : World) : Calls Tryz.prog 73 #[.agg #[.int .i64 y, .int .i64 m, .int .i64 d]] w fun e w' => e = .returned (.bool (mb y m d)) ∧ Below w.heap.size w w' := by
 have D : ∀ w : World, Below w.heap.size w (w.alloc (.cells #[.int .i64 y, .int .i64 m, .int .i64 d] 86)) := fun w => (Below.refl _ _).alloc (Nat.le_refl _) _
 by_cases h : y < 1 ∨ 9999 < y ∨ m < 1 ∨ 12 < m ∨ d < 1
 ·have hm : mb y m d = false := by unfold mb; rw [decide_eq_false_iff_not]; omega
  rw [hm]
  go_enter Tryz.func73, Tryz.ntmps73
  go_wp2
  all_goals first | (exfalso; omega) | skip
  all_goals (go_ret; exact ⟨rfl, D _⟩)
 ·have y1 : 1 ≤ y := by omega
  have y2 : y ≤ 9999 := by omega
  have m1 : 1 ≤ m := by omega
  have m2 : m ≤ 12 := by omega
  have d1 : 1 ≤ d := by omega
  have C := Lib.hid (fun v => zDf y m v)
  obtain ⟨l, HB⟩ : ∃ l, Hid (ln y m = l) := ⟨_, Lib.hid rfl⟩
  have hm : mb y m d = decide (d ≤ l) := by
   rw [← HB.out]; unfold mb; rw [decide_eq_decide]
   exact ⟨fun h => h.2.2.2.2.2, fun h => ⟨y1, y2, m1, m2, d1, h⟩⟩
  rw [hm]
  rw [HB.out] at C
  clear h hm
  go_enter Tryz.func73, Tryz.ntmps73
  go_wp2_with fail
  (with_reducible refine (C.out _).mono ?_)
  rintro e w1 ⟨rfl, rfl⟩
  go_wp2
  go_ret
  exact ⟨rfl, D _⟩
theorem zMw (y : Int) (w : World) (h1 : 1 ≤ y) (h2 : y ≤ 10000) : Calls Tryz.prog 74 #[.int .i64 y] w fun e w' => e = .returned (.int .i64 (ah y)) ∧ w = w' := by
 have C := Lib.hid (fun k w => zIe k w)
 go_enter Tryz.func74, Tryz.ntmps74
 go_wp2
 go_loop [4, 5] (fun n i => ∃ k : Int, 1 ≤ k ∧ k ≤ y ∧ i = .int .i64 k ∧ n = .int .i64 (ah k)) (fun _ i => (y - intOf i).toNat)
 case atStart => exact ⟨400 * ((y - 1) / 400) + 1, by omega, by omega, rfl, by unfold ah; simp only [Value.int.injEq, true_and]; omega⟩
 case round =>
  obtain ⟨k, k1, k2, rfl, rfl⟩ := hrel
  by_cases hk : k < y
  ·have st := Lib.hid (zDb k)
   have u := zIs k k1 (by omega)
   generalize ah k = A at *
   unfold yl at st
   go_wp2_with fail
   (with_reducible refine (C.out _ _).mono ?_)
   rintro e w1 ⟨rfl, rfl⟩
   generalize lp k = b at *
   cases b
   ·go_wp2
    go_round
    case rel => exact ⟨k + 1, by omega, by omega, rfl, by rw [st.out]; rfl⟩
    case measure => simp [intOf]; omega
   ·go_wp2
    go_round
    case rel => exact ⟨k + 1, by omega, by omega, rfl, by rw [st.out]; simp only [Value.int.injEq, true_and]; simp; omega⟩
    case measure => simp [intOf]; omega
  ·have e : k = y := by omega
   subst e
   go_wp2
   go_ret
   exact ⟨rfl, rfl⟩
end Go.Proofs.YtpfgdfpaoldhcaaGreatDoor
