/- Several texts in one: Right, RAdd, RShown. -/
import Derived.Test.YtpfgdfpaoldhcaaGreatDoorSoAF
import Derived.Deep.RegionWith
set_option maxHeartbeats 8000000
set_option maxRecDepth 100000
set_option linter.unusedVariables false
set_option linter.unusedSimpArgs false
namespace Go.Proofs.YtpfgdfpaoldhcaaGreatDoor
open Go.RowKit
theorem right_y (n d : Int) (w : World) (a : 0 ≤ n) (b : n ≤ 4611686018427387904) (c : 1 ≤ d) (e : d ≤ 4611686018427387904) (hg : gi n d = 1) :
  Calls Tryz.prog 184 #[.agg #[.int .i64 n, .int .i64 d]] w fun e w' => e = .returned (.bool true) ∧ Below w.heap.size w w' := by
 have H := Held.start w
 obtain ⟨g, HG⟩ : ∃ g, Hid (gi n d = g) := ⟨_, Lib.hid rfl⟩
 rw [HG.out] at hg
 have tg : (g == 1) = true := beq_iff_eq.2 hg
 have t1 : decide (n < 0) = false := by simp; omega
 have t2 : decide (4611686018427387904 < n) = false := by simp; omega
 have t3 : decide (d < 1) = false := by simp; omega
 have t4 : decide (4611686018427387904 < d) = false := by simp; omega
 have w1 : IntKind.u64.wrap n = n := IntWalk.u64_in _ (by omega)
 have w2 : IntKind.u64.wrap d = d := IntWalk.u64_in _ (by omega)
 clear hg
 go_enter Tryz.func184, Tryz.ntmps184
 go_wp2_with fail
 replace H := (H.pair (w.heap.size) (.int .i64 n) (.int .i64 d) 48 rfl)
 (with_reducible refine (zDn n d _ (by omega) (by omega) (by omega) (by omega)).mono ?_)
 rw [HG.out]
 rintro e w1 ⟨rfl, hb⟩
 replace H := H.below hb
 clear hb
 go_wp2
 go_ret
 exact ⟨rfl, H.old⟩
theorem right_n (n d : Int) (w : World) (a : 0 ≤ n) (b : n ≤ 4611686018427387904) (c : 1 ≤ d) (e : d ≤ 4611686018427387904) (hg : gi n d ≠ 1) :
  Calls Tryz.prog 184 #[.agg #[.int .i64 n, .int .i64 d]] w fun e w' => e = .returned (.bool false) ∧ Below w.heap.size w w' := by
 have H := Held.start w
 obtain ⟨g, HG⟩ : ∃ g, Hid (gi n d = g) := ⟨_, Lib.hid rfl⟩
 rw [HG.out] at hg
 have tg : (g == 1) = false := beq_eq_false_iff_ne.2 hg
 have t1 : decide (n < 0) = false := by simp; omega
 have t2 : decide (4611686018427387904 < n) = false := by simp; omega
 have t3 : decide (d < 1) = false := by simp; omega
 have t4 : decide (4611686018427387904 < d) = false := by simp; omega
 have w1 : IntKind.u64.wrap n = n := IntWalk.u64_in _ (by omega)
 have w2 : IntKind.u64.wrap d = d := IntWalk.u64_in _ (by omega)
 clear hg
 go_enter Tryz.func184, Tryz.ntmps184
 go_wp2_with fail
 replace H := (H.pair (w.heap.size) (.int .i64 n) (.int .i64 d) 48 rfl)
 (with_reducible refine (zDn n d _ (by omega) (by omega) (by omega) (by omega)).mono ?_)
 rw [HG.out]
 rintro e w1 ⟨rfl, hb⟩
 replace H := H.below hb
 clear hb
 go_wp2
 go_ret
 exact ⟨rfl, H.old⟩
theorem right_n1 (n d : Int) (w : World) (a : n < 0) :
  Calls Tryz.prog 184 #[.agg #[.int .i64 n, .int .i64 d]] w fun e w' => e = .returned (.bool false) ∧ Below w.heap.size w w' := by
 have H := Held.start w
 have t1 : decide (n < 0) = true := by simp; omega
 go_enter Tryz.func184, Tryz.ntmps184
 go_wp2
 go_ret
 exact ⟨rfl, (Below.refl _ _).alloc (Nat.le_refl _) _⟩
theorem right_n2 (n d : Int) (w : World) (a : 0 ≤ n) (b : 4611686018427387904 < n) :
  Calls Tryz.prog 184 #[.agg #[.int .i64 n, .int .i64 d]] w fun e w' => e = .returned (.bool false) ∧ Below w.heap.size w w' := by
 have H := Held.start w
 have t1 : decide (n < 0) = false := by simp; omega
 have t2 : decide (4611686018427387904 < n) = true := by simp; omega
 go_enter Tryz.func184, Tryz.ntmps184
 go_wp2
 go_ret
 exact ⟨rfl, (Below.refl _ _).alloc (Nat.le_refl _) _⟩
theorem right_n3 (n d : Int) (w : World) (a : 0 ≤ n) (b : n ≤ 4611686018427387904) (c : d < 1) :
  Calls Tryz.prog 184 #[.agg #[.int .i64 n, .int .i64 d]] w fun e w' => e = .returned (.bool false) ∧ Below w.heap.size w w' := by
 have H := Held.start w
 have t1 : decide (n < 0) = false := by simp; omega
 have t2 : decide (4611686018427387904 < n) = false := by simp; omega
 have t3 : decide (d < 1) = true := by simp; omega
 go_enter Tryz.func184, Tryz.ntmps184
 go_wp2
 go_ret
 exact ⟨rfl, (Below.refl _ _).alloc (Nat.le_refl _) _⟩
theorem right_n4 (n d : Int) (w : World) (a : 0 ≤ n) (b : n ≤ 4611686018427387904) (c : 1 ≤ d) (e : 4611686018427387904 < d) :
  Calls Tryz.prog 184 #[.agg #[.int .i64 n, .int .i64 d]] w fun e w' => e = .returned (.bool false) ∧ Below w.heap.size w w' := by
 have H := Held.start w
 have t1 : decide (n < 0) = false := by simp; omega
 have t2 : decide (4611686018427387904 < n) = false := by simp; omega
 have t3 : decide (d < 1) = false := by simp; omega
 have t4 : decide (4611686018427387904 < d) = true := by simp; omega
 go_enter Tryz.func184, Tryz.ntmps184
 go_wp2
 go_ret
 exact ⟨rfl, (Below.refl _ _).alloc (Nat.le_refl _) _⟩
theorem zIc (n d : Int) (w : World) :
  Calls Tryz.prog 184 #[.agg #[.int .i64 n, .int .i64 d]] w fun e w' => e = .returned (.bool (zAe n d)) ∧ Below w.heap.size w w' := by
 have no : ¬ (0 ≤ n ∧ n ≤ 4611686018427387904 ∧ 1 ≤ d ∧ d ≤ 4611686018427387904 ∧ gi n d = 1) → zAe n d = false := fun h => by unfold zAe; exact decide_eq_false h
 by_cases a : n < 0
 ·rw [no (by omega)]; exact right_n1 n d w a
 by_cases b : 4611686018427387904 < n
 ·rw [no (by omega)]; exact right_n2 n d w (by omega) b
 by_cases c : d < 1
 ·rw [no (by omega)]; exact right_n3 n d w (by omega) (by omega) c
 by_cases e : 4611686018427387904 < d
 ·rw [no (by omega)]; exact right_n4 n d w (by omega) (by omega) (by omega) e
 by_cases g : gi n d = 1
 ·rw [(zB6 n d).2 ⟨by omega, by omega, by omega, by omega, g⟩]; exact right_y n d w (by omega) (by omega) (by omega) (by omega) g
 ·rw [no (by omega)]; exact right_n n d w (by omega) (by omega) (by omega) (by omega) g
theorem zId (n d : Int) (w : World) (h : zAe n d = true) :
  Calls Tryz.prog 184 #[.agg #[.int .i64 n, .int .i64 d]] w fun e w' => e = .returned (.bool true) ∧ Below w.heap.size w w' := by
 have := zIc n d w; rwa [h] at this
theorem add_m {an ad bn bd : Int} (ha : zAe an ad = true) (hb : zAe bn bd = true) :
  (an * mD ad bd + bn * mN ad bd) / gi (an * mD ad bd + bn * mN ad bd) (gi ad bd) = mN (an * bd + bn * ad) (ad * bd) ∧
  mN ad bd * (bd / gi (an * mD ad bd + bn * mN ad bd) (gi ad bd)) = mD (an * bd + bn * ad) (ad * bd) := by
 obtain ⟨a0, a1, a2, a3, a4⟩ := (zB6 an ad).1 ha
 obtain ⟨b0, b1, b2, b3, b4⟩ := (zB6 bn bd).1 hb
 have p := zHs ad bd (Or.inr (by omega))
 have e1 := zPe ad bd
 have e2 := zLd ad bd
 have o1 := m_one ad bd (Or.inr (by omega))
 have dA : mN ad bd ∣ ad := ⟨gi ad bd, by rw [Int.mul_comm]; exact e1.symm⟩
 have dB : mD ad bd ∣ bd := ⟨gi ad bd, by rw [Int.mul_comm]; exact e2.symm⟩
 have c1 : gi an (mN ad bd) = 1 := zI4 a4 dA
 have c2 : gi bn (mD ad bd) = 1 := zI4 b4 dB
 generalize mN ad bd = ra at *
 generalize mD ad bd = rb at *
 have o2 : gi rb ra = 1 := by rw [zGo]; exact o1
 have s1 : gi (an * rb + bn * ra) ra = 1 := zPs (zI5 c1 o2)
 have s2 : gi (an * rb + bn * ra) rb = 1 := by
  rw [Int.add_comm]; exact zPs (zI5 c2 o1)
 have k1 : gi ad bd * (an * rb + bn * ra) = an * bd + bn * ad := by grind
 have k2 : gi ad bd * (ra * bd) = ad * bd := by grind
 have s := zJq (gi ad bd) (an * rb + bn * ra) (ra * bd) p
 rw [k1, k2] at s
 have g1 : gi (an * rb + bn * ra) (ra * bd) = gi (an * rb + bn * ra) (gi ad bd) := by
  rw [zG6 s1]
  have : bd = rb * gi ad bd := by rw [Int.mul_comm]; exact e2.symm
  have h := zG6 (c := gi ad bd) s2
  rw [← this] at h
  exact h
 have dv : gi (an * rb + bn * ra) (gi ad bd) ∣ bd := Int.dvd_trans (zD0 _ _) (zD0 _ _)
 refine ⟨?_, ?_⟩
 ·rw [s.1]; unfold mN; rw [g1]
 ·rw [s.2]; unfold mD; rw [g1, Int.mul_ediv_assoc _ dv]
theorem le2 {a b : Nat} (h : a + 2 < b) : a ≤ b := by omega
theorem zPy {a b : Int} (h1 : 0 ≤ a) (h2 : a ≤ 4611686018427387904) (h3 : 0 ≤ b) (h4 : b ≤ 4611686018427387904) : 0 ≤ a * b ∧ a * b ≤ 21267647932558653966460912964485513216 :=
 ⟨Int.mul_nonneg h1 h3, Int.le_trans (Int.mul_le_mul h2 h4 h3 (by omega)) (by omega)⟩
theorem radd_any (an ad bn bd : Int) (w : World) (ha : zAe an ad = true) (hb : zAe bn bd = true) :
  Calls Tryz.prog 159 #[.agg #[.int .i64 an, .int .i64 ad], .agg #[.int .i64 bn, .int .i64 bd]] w fun e w' => e = .returned (.tuple #[.agg #[.int .i64 (rN (an * bd + bn * ad) (ad * bd)), .int .i64 (rD (an * bd + bn * ad) (ad * bd))], .int .i64 (rE (an * bd + bn * ad) (ad * bd))]) ∧ Below w.heap.size w w' := by
 have H := Held.start w
 obtain ⟨a0, a1, a2, a3, a4⟩ := (zB6 an ad).1 ha
 obtain ⟨b0, b1, b2, b3, b4⟩ := (zB6 bn bd).1 hb
 have MM := add_m ha hb
 have m1 := m_le ad bd (by omega) (by omega)
 have m2 := zCu ad bd (by omega)
 have m3 := zFf ad bd (by omega)
 have gp := zHs ad bd (Or.inr (by omega))
 have gl := zP2 ad bd (by omega)
 obtain ⟨g, HG⟩ : ∃ x, Hid (gi ad bd = x) := ⟨_, Lib.hid rfl⟩
 obtain ⟨ra, RA'⟩ : ∃ x, Hid (mN ad bd = x) := ⟨_, Lib.hid rfl⟩
 obtain ⟨rb, RB'⟩ : ∃ x, Hid (mD ad bd = x) := ⟨_, Lib.hid rfl⟩
 have qa : Hid (ad / g = ra) := Lib.hid (by rw [← HG.out, ← RA'.out]; rfl)
 have qb : Hid (bd / g = rb) := Lib.hid (by rw [← HG.out, ← RB'.out]; rfl)
 rw [HG.out] at gp gl
 rw [RA'.out] at m2
 rw [RB'.out] at m3
 rw [RA'.out, RB'.out] at m1
 rw [RA'.out, RB'.out, HG.out] at MM
 obtain ⟨m11, m12⟩ := m1
 have p1 := zPy a0 a1 (by omega : 0 ≤ rb) (by omega)
 have p2 := zPy b0 b1 (by omega : 0 ≤ ra) (by omega)
 obtain ⟨p, HP⟩ : ∃ x, Hid (an * rb = x) := ⟨_, Lib.hid rfl⟩
 obtain ⟨q, HQ⟩ : ∃ x, Hid (bn * ra = x) := ⟨_, Lib.hid rfl⟩
 rw [HP.out] at p1
 rw [HQ.out] at p2
 rw [HP.out, HQ.out] at MM
 obtain ⟨p11, p12⟩ := p1
 obtain ⟨p21, p22⟩ := p2
 obtain ⟨s, HS'⟩ : ∃ x, Hid (p + q = x) := ⟨_, Lib.hid rfl⟩
 have s0 : 0 ≤ s := by rw [← HS'.out]; omega
 have s1 : s < top := by rw [← HS'.out]; unfold top; omega
 rw [HS'.out] at MM
 have up := zHs s g (Or.inr gp)
 have ul := zP2 s g gp
 have ub : gi s g ∣ bd := Int.dvd_trans (zD0 _ _) (by rw [← HG.out]; exact zD0 _ _)
 have st := zJh s g s0 (by omega)
 obtain ⟨u, HU⟩ : ∃ x, Hid (gi s g = x) := ⟨_, Lib.hid rfl⟩
 rw [HU.out] at up ul MM st
 have ST := Lib.hid st
 obtain ⟨l, HL⟩ : ∃ x, Hid (s % g = x) := ⟨_, Lib.hid rfl⟩
 have l0 : 0 ≤ l := by rw [← HL.out]; exact Int.emod_nonneg _ (by omega)
 have l1 : l < g := by rw [← HL.out]; exact Int.emod_lt_of_pos _ gp
 have HGL : Hid (gi g l = u) := Lib.hid (by rw [← HL.out]; exact ST.out)
 obtain ⟨v, HV⟩ : ∃ x, Hid (s / g = x) := ⟨_, Lib.hid rfl⟩
 obtain ⟨x, HX⟩ : ∃ x, Hid (s / u = x) := ⟨_, Lib.hid rfl⟩
 obtain ⟨x2, HX2⟩ : ∃ x, Hid (s % u = x) := ⟨_, Lib.hid rfl⟩
 obtain ⟨k, HK⟩ : ∃ x, Hid (bd / u = x) := ⟨_, Lib.hid rfl⟩
 have x0 : 0 ≤ x := by rw [← HX.out]; exact Int.ediv_nonneg s0 (by omega)
 have k0 : 0 ≤ k := by rw [← HK.out]; exact Int.ediv_nonneg (by omega) (by omega)
 have k1 : k ≤ bd := by rw [← HK.out]; exact Int.ediv_le_self _ (by omega)
 have y0 : 0 ≤ ra * k := Int.mul_nonneg m2 k0
 rw [HX.out, HK.out] at MM
 obtain ⟨y, HY⟩ : ∃ x, Hid (ra * k = x) := ⟨_, Lib.hid rfl⟩
 rw [HY.out] at MM y0
 have FH := Lib.hid (fun w => fit_hl x y (an * bd + bn * ad) (ad * bd) w x0 y0 MM.1 MM.2)
 obtain ⟨rn, RN⟩ : ∃ x, Hid (rN (an * bd + bn * ad) (ad * bd) = x) := ⟨_, Lib.hid rfl⟩
 obtain ⟨rd, RD⟩ : ∃ x, Hid (rD (an * bd + bn * ad) (ad * bd) = x) := ⟨_, Lib.hid rfl⟩
 obtain ⟨re, RE⟩ : ∃ x, Hid (rE (an * bd + bn * ad) (ad * bd) = x) := ⟨_, Lib.hid rfl⟩
 rw [RN.out, RD.out, RE.out]
 have RA := Lib.hid ha
 have RB := Lib.hid hb
 have tg : (g == 0) = false := beq_eq_false_iff_ne.2 (by omega)
 have tu : (u == 0) = false := beq_eq_false_iff_ne.2 (by omega)
 have q1 : 0 ≤ ad := by omega
 have q2 : 0 ≤ bd := by omega
 have q3 : 0 ≤ g := by omega
 have q4 : 0 ≤ u := by omega
 have q5 : ad < 18446744073709551616 := by omega
 have q6 : bd < 18446744073709551616 := by omega
 have ps : Hid (p + q < top) := Lib.hid (by rw [HS'.out]; exact s1)
 clear ha hb MM a4 b4 ub st y0 x0
 have wan : IntKind.u64.wrap an = an := IntWalk.u64_in _ (by omega)
 have wad : IntKind.u64.wrap ad = ad := IntWalk.u64_in _ (by omega)
 have wbn : IntKind.u64.wrap bn = bn := IntWalk.u64_in _ (by omega)
 have wbd : IntKind.u64.wrap bd = bd := IntWalk.u64_in _ (by omega)
 go_enter Tryz.func159, Tryz.ntmps159
 go_wp2_with fail
 replace H := (((H.pair (w.heap.size) (.int .i64 an) (.int .i64 ad) 48 rfl).pair (w.heap.size + 1) (.int .i64 bn) (.int .i64 bd) 48 (by simp)).pair (w.heap.size + 2) (.int .i64 0) (.int .i64 0) 48 (by simp))
 (with_reducible refine (zId an ad _ RA.out).mono ?_)
 rintro e w1 ⟨rfl, hb⟩
 replace H := H.below hb
 clear hb
 have cb0 := H.cell (w.heap.size + 1) 0 (.int .i64 bn) i4_
 have cb1 := H.cell (w.heap.size + 1) 1 (.int .i64 bd) i5_
 have lb := H.lt (w.heap.size + 1) 0 (.int .i64 bn) i4_
 go_wp2_with fail
 clear cb0 cb1 lb
 (with_reducible refine (zId bn bd _ RB.out).mono ?_)
 rintro e w2 ⟨rfl, hb⟩
 replace H := H.below hb
 clear hb
 have ca0 := H.cell (w.heap.size) 0 (.int .i64 an) i8_
 have ca1 := H.cell (w.heap.size) 1 (.int .i64 ad) i9_
 have la := H.lt (w.heap.size) 0 (.int .i64 an) i8_
 have cb0 := H.cell (w.heap.size + 1) 0 (.int .i64 bn) i4_
 have cb1 := H.cell (w.heap.size + 1) 1 (.int .i64 bd) i5_
 have lb := H.lt (w.heap.size + 1) 0 (.int .i64 bn) i4_
 go_wp2_with fail
 clear ca0 ca1 la cb0 cb1 lb
 (with_reducible refine (zDn ad bd _ (by omega) (by omega) (by omega) (by omega)).mono ?_)
 rw [HG.out]
 rintro e w3 ⟨rfl, hb⟩
 replace H := H.below hb
 clear hb
 have ca0 := H.cell (w.heap.size) 0 (.int .i64 an) i8_
 have ca1 := H.cell (w.heap.size) 1 (.int .i64 ad) i9_
 have la := H.lt (w.heap.size) 0 (.int .i64 an) i8_
 have cb0 := H.cell (w.heap.size + 1) 0 (.int .i64 bn) i4_
 have cb1 := H.cell (w.heap.size + 1) 1 (.int .i64 bd) i5_
 have lb := H.lt (w.heap.size + 1) 0 (.int .i64 bn) i4_
 go_wp2_with fail
 go_quiet (fail)
 rw [qa.out, qb.out]
 replace H := H.drewN nq
 go_upto_region 5 with fail
 go_cut [9] (fun s9 wx => ∃ z : Nat, s9 = .pointer (some ⟨z, 0, none⟩) ∧ wx.cell? ⟨z, 0, none⟩ = some (.int .u64 (hi s)) ∧ wx.cell? ⟨z, 1, none⟩ = some (.int .u64 (lo s)) ∧ Held w [.cell (w.heap.size + 2) 0 (.int .i64 0), .cell (w.heap.size + 2) 1 (.int .i64 0), .free (w.heap.size + 2) 0, .free (w.heap.size + 2) 1, .cell (w.heap.size + 1) 0 (.int .i64 bn), .cell (w.heap.size + 1) 1 (.int .i64 bd), .free (w.heap.size + 1) 0, .free (w.heap.size + 1) 1, .cell (w.heap.size) 0 (.int .i64 an), .cell (w.heap.size) 1 (.int .i64 ad), .free (w.heap.size) 0, .free (w.heap.size) 1] wx)
 case first =>
  have OFF : Hid (∀ Z : Nat, w.heap.size + 2 < Z → ∀ f ∈ ([.cell (w.heap.size + 2) 0 (.int .i64 0), .cell (w.heap.size + 2) 1 (.int .i64 0), .free (w.heap.size + 2) 0, .free (w.heap.size + 2) 1, .cell (w.heap.size + 1) 0 (.int .i64 bn), .cell (w.heap.size + 1) 1 (.int .i64 bd), .free (w.heap.size + 1) 0, .free (w.heap.size + 1) 1, .cell (w.heap.size) 0 (.int .i64 an), .cell (w.heap.size) 1 (.int .i64 ad), .free (w.heap.size) 0, .free (w.heap.size) 1] : List Fact), f.off Z) := Lib.hid (fun Z hz f hf => by
   simp only [List.mem_cons, List.not_mem_nil, or_false] at hf
   rcases hf with rfl | rfl | rfl | rfl | rfl | rfl | rfl | rfl | rfl | rfl | rfl | rfl
   ·exact (show _ ≠ _ by omega)
   ·exact (show _ ≠ _ by omega)
   ·trivial
   ·trivial
   ·exact (show _ ≠ _ by omega)
   ·exact (show _ ≠ _ by omega)
   ·trivial
   ·trivial
   ·exact (show _ ≠ _ by omega)
   ·exact (show _ ≠ _ by omega)
   ·trivial
   ·trivial)
  replace H := H.drew
  go_region_with
   (first
    | (go_at_call 187; (with_reducible refine (zJs an rb p _ (by omega) (by omega) (by omega) (by omega) HP.out).mono ?_); rintro e w' ⟨rfl, hb⟩; replace H := H.below hb; (try ((replace fz0 := zA5 hb (zA0 cz0) fz0; replace fz1 := zA5 hb (zA0 cz1) fz1; replace cz0 := keep hb (zA0 cz0) cz0; replace cz1 := keep hb (zA0 cz1) cz1; replace kz := zA0 cz0))); clear hb; replace ca0 := H.cell (w.heap.size) 0 (.int .i64 an); replace ca1 := H.cell (w.heap.size) 1 (.int .i64 ad); replace la := H.lt (w.heap.size) 0 (.int .i64 an); replace cb0 := H.cell (w.heap.size + 1) 0 (.int .i64 bn); replace cb1 := H.cell (w.heap.size + 1) 1 (.int .i64 bd); replace lb := H.lt (w.heap.size + 1) 0 (.int .i64 bn))
    | (go_at_call 187; (with_reducible refine (zJs an rb p _ (by omega) (by omega) (by omega) (by omega) HP.out).mono ?_); rintro e w' ⟨rfl, hb⟩; have lz := H.lt (w.heap.size + 2) 0 (.int .i64 0); replace H := (H.pair (w3.heap.size) (.int .u64 0) (.int .u64 0) _ rfl).below hb; clear hb; have cz0 := H.cell _ 0 (.int .u64 0); have cz1 := H.cell _ 1 (.int .u64 0); have fz0 := H.frozen _ 0 i2_; have fz1 := H.frozen _ 1 i3_; have kz := zA0 cz0; replace ca0 := H.cell (w.heap.size) 0 (.int .i64 an); replace ca1 := H.cell (w.heap.size) 1 (.int .i64 ad); replace la := H.lt (w.heap.size) 0 (.int .i64 an); replace cb0 := H.cell (w.heap.size + 1) 0 (.int .i64 bn); replace cb1 := H.cell (w.heap.size + 1) 1 (.int .i64 bd); replace lb := H.lt (w.heap.size + 1) 0 (.int .i64 bn))
    | (go_at_call 187; (with_reducible refine (zJs an rb p _ (by omega) (by omega) (by omega) (by omega) HP.out).mono ?_); rintro e w' ⟨rfl, hb⟩; have lz := H.lt (w.heap.size + 2) 0 (.int .i64 0); replace H := (H.pair (_) (.int .u64 0) (.int .u64 0) _ rfl).below hb; clear hb; have cz0 := H.cell _ 0 (.int .u64 0); have cz1 := H.cell _ 1 (.int .u64 0); have fz0 := H.frozen _ 0 i2_; have fz1 := H.frozen _ 1 i3_; have kz := zA0 cz0; replace ca0 := H.cell (w.heap.size) 0 (.int .i64 an); replace ca1 := H.cell (w.heap.size) 1 (.int .i64 ad); replace la := H.lt (w.heap.size) 0 (.int .i64 an); replace cb0 := H.cell (w.heap.size + 1) 0 (.int .i64 bn); replace cb1 := H.cell (w.heap.size + 1) 1 (.int .i64 bd); replace lb := H.lt (w.heap.size + 1) 0 (.int .i64 bn))
    | (go_at_call 187; (with_reducible refine (zJs bn ra q _ (by omega) (by omega) (by omega) (by omega) HQ.out).mono ?_); rintro e w' ⟨rfl, hb⟩; replace H := H.below hb; (try ((replace fz0 := zA5 hb (zA0 cz0) fz0; replace fz1 := zA5 hb (zA0 cz1) fz1; replace cz0 := keep hb (zA0 cz0) cz0; replace cz1 := keep hb (zA0 cz1) cz1; replace kz := zA0 cz0))); clear hb; replace ca0 := H.cell (w.heap.size) 0 (.int .i64 an); replace ca1 := H.cell (w.heap.size) 1 (.int .i64 ad); replace la := H.lt (w.heap.size) 0 (.int .i64 an); replace cb0 := H.cell (w.heap.size + 1) 0 (.int .i64 bn); replace cb1 := H.cell (w.heap.size + 1) 1 (.int .i64 bd); replace lb := H.lt (w.heap.size + 1) 0 (.int .i64 bn))
    | (go_at_call 187; (with_reducible refine (zJs bn ra q _ (by omega) (by omega) (by omega) (by omega) HQ.out).mono ?_); rintro e w' ⟨rfl, hb⟩; have lz := H.lt (w.heap.size + 2) 0 (.int .i64 0); replace H := (H.pair (w3.heap.size) (.int .u64 0) (.int .u64 0) _ rfl).below hb; clear hb; have cz0 := H.cell _ 0 (.int .u64 0); have cz1 := H.cell _ 1 (.int .u64 0); have fz0 := H.frozen _ 0 i2_; have fz1 := H.frozen _ 1 i3_; have kz := zA0 cz0; replace ca0 := H.cell (w.heap.size) 0 (.int .i64 an); replace ca1 := H.cell (w.heap.size) 1 (.int .i64 ad); replace la := H.lt (w.heap.size) 0 (.int .i64 an); replace cb0 := H.cell (w.heap.size + 1) 0 (.int .i64 bn); replace cb1 := H.cell (w.heap.size + 1) 1 (.int .i64 bd); replace lb := H.lt (w.heap.size + 1) 0 (.int .i64 bn))
    | (go_at_call 187; (with_reducible refine (zJs bn ra q _ (by omega) (by omega) (by omega) (by omega) HQ.out).mono ?_); rintro e w' ⟨rfl, hb⟩; have lz := H.lt (w.heap.size + 2) 0 (.int .i64 0); replace H := (H.pair (_) (.int .u64 0) (.int .u64 0) _ rfl).below hb; clear hb; have cz0 := H.cell _ 0 (.int .u64 0); have cz1 := H.cell _ 1 (.int .u64 0); have fz0 := H.frozen _ 0 i2_; have fz1 := H.frozen _ 1 i3_; have kz := zA0 cz0; replace ca0 := H.cell (w.heap.size) 0 (.int .i64 an); replace ca1 := H.cell (w.heap.size) 1 (.int .i64 ad); replace la := H.lt (w.heap.size) 0 (.int .i64 an); replace cb0 := H.cell (w.heap.size + 1) 0 (.int .i64 bn); replace cb1 := H.cell (w.heap.size + 1) 1 (.int .i64 bd); replace lb := H.lt (w.heap.size + 1) 0 (.int .i64 bn))
    | (go_at_call 186; (with_reducible refine (zNn p q _ p11 (by unfold top; omega) p21 (by unfold top; omega) ps.out).mono ?_); rw [HS'.out]; rintro e w' ⟨rfl, hb⟩; replace H := H.below hb; (try ((replace fz0 := zA5 hb (zA0 cz0) fz0; replace fz1 := zA5 hb (zA0 cz1) fz1; replace cz0 := keep hb (zA0 cz0) cz0; replace cz1 := keep hb (zA0 cz1) cz1; replace kz := zA0 cz0))); clear hb; replace ca0 := H.cell (w.heap.size) 0 (.int .i64 an); replace ca1 := H.cell (w.heap.size) 1 (.int .i64 ad); replace la := H.lt (w.heap.size) 0 (.int .i64 an); replace cb0 := H.cell (w.heap.size + 1) 0 (.int .i64 bn); replace cb1 := H.cell (w.heap.size + 1) 1 (.int .i64 bd); replace lb := H.lt (w.heap.size + 1) 0 (.int .i64 bn))
    | (go_at_call 186; (with_reducible refine (zNn p q _ p11 (by unfold top; omega) p21 (by unfold top; omega) ps.out).mono ?_); rw [HS'.out]; rintro e w' ⟨rfl, hb⟩; have lz := H.lt (w.heap.size + 2) 0 (.int .i64 0); replace H := (H.pair (w3.heap.size) (.int .u64 0) (.int .u64 0) _ rfl).below hb; clear hb; have cz0 := H.cell _ 0 (.int .u64 0); have cz1 := H.cell _ 1 (.int .u64 0); have fz0 := H.frozen _ 0 i2_; have fz1 := H.frozen _ 1 i3_; have kz := zA0 cz0; replace ca0 := H.cell (w.heap.size) 0 (.int .i64 an); replace ca1 := H.cell (w.heap.size) 1 (.int .i64 ad); replace la := H.lt (w.heap.size) 0 (.int .i64 an); replace cb0 := H.cell (w.heap.size + 1) 0 (.int .i64 bn); replace cb1 := H.cell (w.heap.size + 1) 1 (.int .i64 bd); replace lb := H.lt (w.heap.size + 1) 0 (.int .i64 bn))
    | (go_at_call 186; (with_reducible refine (zNn p q _ p11 (by unfold top; omega) p21 (by unfold top; omega) ps.out).mono ?_); rw [HS'.out]; rintro e w' ⟨rfl, hb⟩; have lz := H.lt (w.heap.size + 2) 0 (.int .i64 0); replace H := (H.pair (_) (.int .u64 0) (.int .u64 0) _ rfl).below hb; clear hb; have cz0 := H.cell _ 0 (.int .u64 0); have cz1 := H.cell _ 1 (.int .u64 0); have fz0 := H.frozen _ 0 i2_; have fz1 := H.frozen _ 1 i3_; have kz := zA0 cz0; replace ca0 := H.cell (w.heap.size) 0 (.int .i64 an); replace ca1 := H.cell (w.heap.size) 1 (.int .i64 ad); replace la := H.lt (w.heap.size) 0 (.int .i64 an); replace cb0 := H.cell (w.heap.size + 1) 0 (.int .i64 bn); replace cb1 := H.cell (w.heap.size + 1) 1 (.int .i64 bd); replace lb := H.lt (w.heap.size + 1) 0 (.int .i64 bn)))
  all_goals
   go_wp2_with fail
   go_meet
   refine ⟨_, rfl, ?_, ?_, ?_⟩
   ·first | (simp [go_sem]; done) | (simp [go_sem, cz0]; done) | (simp [go_sem, cz0, cz1]; done)
   ·first | (simp [go_sem]; done) | (simp [go_sem, cz1]; done) | (simp [go_sem, cz0, cz1]; done)
   ·first | exact H.alloc _ | exact ((H.sub (fun f hf => List.Mem.tail _ (List.Mem.tail _ (List.Mem.tail _ (List.Mem.tail _ hf))))).set _ _ _ (le2 lz) (OFF.out _ lz)).set _ _ _ (le2 lz) (OFF.out _ lz)
 case rest =>
  obtain ⟨z, rfl, cz0, cz1, H⟩ := hcut
  replace H := (H.add (f := .cell z 1 (.int .u64 (lo s))) cz1).add (f := .cell z 0 (.int .u64 (hi s))) cz0
  clear cz0 cz1
  have cz0 := H.cell (z) 0 (.int .u64 (hi s)) i0_
  have cz1 := H.cell (z) 1 (.int .u64 (lo s)) i1_
  have lz := H.lt (z) 0 (.int .u64 (hi s)) i0_
  go_wp2_with fail
  clear cz0 cz1 lz
  (with_reducible refine (div_hl s g _ s0 s1 gp (by omega)).mono ?_)
  rw [HV.out, HL.out]
  rintro e w4 ⟨rfl, hb⟩
  replace H := H.below hb
  clear hb
  go_wp2_with fail
  replace H := (H.pair (w4.heap.size) (.int .u64 (hi v)) (.int .u64 (lo v)) 226 rfl)
  (with_reducible refine (zDn g l _ (by omega) (by omega) (by omega) (by omega)).mono ?_)
  rw [HGL.out]
  rintro e w5 ⟨rfl, hb⟩
  replace H := H.below hb
  clear hb
  have cz0 := H.cell (z) 0 (.int .u64 (hi s)) i4_
  have cz1 := H.cell (z) 1 (.int .u64 (lo s)) i5_
  have lz := H.lt (z) 0 (.int .u64 (hi s)) i4_
  go_wp2_with fail
  clear cz0 cz1 lz
  (with_reducible refine (div_hl s u _ s0 s1 up (by omega)).mono ?_)
  rw [HX.out, HX2.out]
  rintro e w6 ⟨rfl, hb⟩
  replace H := H.below hb
  clear hb
  have lrx := H.lt (w.heap.size + 2) 0 (.int .i64 0) i6_
  go_wp2_with fail
  replace H := (H.pair (w6.heap.size) (.int .u64 (hi x)) (.int .u64 (lo x)) 226 rfl)
  have h1 : 0 ≤ bd / u := by rw [HK.out]; exact k0
  have h2 : bd / u < 18446744073709551616 := by rw [HK.out]; omega
  have HYq : Hid (ra * (bd / u) = y) := Lib.hid (by rw [HK.out]; exact HY.out)
  have cb0 := H.cell (w.heap.size + 1) 0 (.int .i64 bn) i14_
  have cb1 := H.cell (w.heap.size + 1) 1 (.int .i64 bd) i15_
  have lb := H.lt (w.heap.size + 1) 0 (.int .i64 bn) i14_
  have cx0 := H.cell (w6.heap.size) 0 (.int .u64 (hi x)) i0_
  have cx1 := H.cell (w6.heap.size) 1 (.int .u64 (lo x)) i1_
  have lx := H.lt (w6.heap.size) 0 (.int .u64 (hi x)) i0_
  have cr0 := H.cell (w.heap.size + 2) 0 (.int .i64 0) i10_
  have cr1 := H.cell (w.heap.size + 2) 1 (.int .i64 0) i11_
  have lr := H.lt (w.heap.size + 2) 0 (.int .i64 0) i10_
  have fr0 := H.frozen (w.heap.size + 2) 0 i12_
  have fr1 := H.frozen (w.heap.size + 2) 1 i13_
  replace H := H.drew
  go_region_with
   (first
    | (go_at_call 187; (with_reducible refine (zJs ra (bd / u) y _ (by omega) (by omega) h1 h2 HYq.out).mono ?_); rintro e w' ⟨rfl, hb⟩; replace H := H.below hb; clear hb; replace cb0 := H.cell (w.heap.size + 1) 0 (.int .i64 bn) i14_; replace cb1 := H.cell (w.heap.size + 1) 1 (.int .i64 bd) i15_; replace lb := H.lt (w.heap.size + 1) 0 (.int .i64 bn) i14_; replace cx0 := H.cell (w6.heap.size) 0 (.int .u64 (hi x)) i0_; replace cx1 := H.cell (w6.heap.size) 1 (.int .u64 (lo x)) i1_; replace lx := H.lt (w6.heap.size) 0 (.int .u64 (hi x)) i0_; replace cr0 := H.cell (w.heap.size + 2) 0 (.int .i64 0) i10_; replace cr1 := H.cell (w.heap.size + 2) 1 (.int .i64 0) i11_; replace lr := H.lt (w.heap.size + 2) 0 (.int .i64 0) i10_; replace fr0 := H.frozen (w.heap.size + 2) 0 i12_; replace fr1 := H.frozen (w.heap.size + 2) 1 i13_)
    | (go_at_call 182; (with_reducible refine (FH.out _).mono ?_); rw [RN.out, RD.out, RE.out]; rintro e w' ⟨rfl, hb⟩; replace H := H.below hb; clear hb; replace cb0 := H.cell (w.heap.size + 1) 0 (.int .i64 bn) i14_; replace cb1 := H.cell (w.heap.size + 1) 1 (.int .i64 bd) i15_; replace lb := H.lt (w.heap.size + 1) 0 (.int .i64 bn) i14_; replace cx0 := H.cell (w6.heap.size) 0 (.int .u64 (hi x)) i0_; replace cx1 := H.cell (w6.heap.size) 1 (.int .u64 (lo x)) i1_; replace lx := H.lt (w6.heap.size) 0 (.int .u64 (hi x)) i0_; replace cr0 := H.cell (w.heap.size + 2) 0 (.int .i64 0) i10_; replace cr1 := H.cell (w.heap.size + 2) 1 (.int .i64 0) i11_; replace lr := H.lt (w.heap.size + 2) 0 (.int .i64 0) i10_; replace fr0 := H.frozen (w.heap.size + 2) 0 i12_; replace fr1 := H.frozen (w.heap.size + 2) 1 i13_))
  all_goals
   go_wp2_with fail
   exact bodyPost_ret (v := .tuple #[.agg #[.int .i64 rn, .int .i64 rd], .int .i64 re]) (by simp [results, Tryz.results159, go_sem, cr0, cr1]) rfl ⟨rfl, (H.old.setCell (by simp <;> omega) _).setCell (by simp <;> omega) _⟩
theorem zH4 (n d : Int) (c : Bool) (w : World) (h : zAe n d = c) :
  Calls Tryz.prog 184 #[.agg #[.int .i64 n, .int .i64 d]] w fun e w' => e = .returned (.bool c) ∧ Below w.heap.size w w' := by
 subst h; exact zIc n d w
theorem zLh (n d p q c : Int) (w : World) (n0 : 0 ≤ n) (n1 : n < 9223372036854775808) (d0 : 0 < d) (d1 : d < 9223372036854775808) (h : rN n d = p ∧ rD n d = q ∧ rE n d = c) :
  Calls Tryz.prog 158 #[.int .i64 n, .int .i64 d] w fun e w' => e = .returned (.tuple #[.agg #[.int .i64 p, .int .i64 q], .int .i64 c]) ∧ Below w.heap.size w w' := by
 obtain ⟨rfl, rfl, rfl⟩ := h; exact zFh n d w n0 n1 d0 d1
theorem zQ4 (an ad bn bd p q c : Int) (w : World) (ha : zAe an ad = true) (hb : zAe bn bd = true) (h : rN (an * bd + bn * ad) (ad * bd) = p ∧ rD (an * bd + bn * ad) (ad * bd) = q ∧ rE (an * bd + bn * ad) (ad * bd) = c) :
  Calls Tryz.prog 159 #[.agg #[.int .i64 an, .int .i64 ad], .agg #[.int .i64 bn, .int .i64 bd]] w fun e w' => e = .returned (.tuple #[.agg #[.int .i64 p, .int .i64 q], .int .i64 c]) ∧ Below w.heap.size w w' := by
 obtain ⟨rfl, rfl, rfl⟩ := h; exact radd_any an ad bn bd w ha hb
end Go.Proofs.YtpfgdfpaoldhcaaGreatDoor
