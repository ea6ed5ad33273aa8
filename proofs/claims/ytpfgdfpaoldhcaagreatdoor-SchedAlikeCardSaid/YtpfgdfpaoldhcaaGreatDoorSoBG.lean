/- Several texts in one: ScAlike. -/
import Derived.Test.YtpfgdfpaoldhcaaGreatDoorSoBD
set_option maxHeartbeats 8000000
set_option maxRecDepth 100000
set_option linter.unusedVariables false
set_option linter.unusedSimpArgs false
namespace Go.Proofs.YtpfgdfpaoldhcaaGreatDoor
open Go.RowKit
theorem zN5 (t : Tm) (c : Ca) (aR : Option Addr) (cR : Nat) (aD : Option Addr) (cD : Nat) (my rt kd wy : Int) (y : Int) (w : World) (hL : FactsS w) (hC : CalAt w c aR cR aD cD) (hc : t.code = y) (h0 : y ≠ 0) : Calls Tryz.prog 6 #[.agg #[.int .i64 t.mo, .int .i64 t.ra, .int .i64 t.ki, .int .i64 t.co, .int .i64 t.st, .int .i64 t.en, .int .i64 t.ms, .bool t.bk, .bool t.lg, .bool t.eo, .int .i64 t.ro, .bool (c.o 0), .bool (c.o 1), .bool (c.o 2), .bool (c.o 3), .bool (c.o 4), .bool (c.o 5), .bool (c.o 6), .slice aR c.nr cR, .slice aD c.nd cD, .int .i64 my, .int .i64 rt, .int .u8 kd, .int .u8 wy]] w fun e w' => e = .returned (.bool true) ∧ Below w.heap.size w w' := by
 have H := ((Held.start w).add (f := zA9) hL).add (f := calF c aR cR aD cD) hC
 have CK := Lib.hid (fun v => zBw t.mo t.ra t.ki t.co t.st t.en t.ms t.bk t.lg t.eo t.ro y v hc)
 have CNe : Hid ((y != 0) = true) := Lib.hid (by simpa using h0)
 have CE : Hid ((y == 0) = false) := Lib.hid (by simpa using h0)
 clear hc
 clear hL hC
 go_enter Tryz.func6, Tryz.ntmps6
 go_upto_region 7 with fail
 replace H := H.alloc (.cells #[.int .i64 t.mo, .int .i64 t.ra, .int .i64 t.ki, .int .i64 t.co, .int .i64 t.st, .int .i64 t.en, .int .i64 t.ms, .bool t.bk, .bool t.lg, .bool t.eo, .int .i64 t.ro, .bool (c.o 0), .bool (c.o 1), .bool (c.o 2), .bool (c.o 3), .bool (c.o 4), .bool (c.o 5), .bool (c.o 6), .slice aR c.nr cR, .slice aD c.nd cD, .int .i64 my, .int .i64 rt, .int .u8 kd, .int .u8 wy] 54)
 replace H := H.box_11 (w.heap.size + 1) (.int .i64 t.mo) (.int .i64 t.ra) (.int .i64 t.ki) (.int .i64 t.co) (.int .i64 t.st) (.int .i64 t.en) (.int .i64 t.ms) (.bool t.bk) (.bool t.lg) (.bool t.eo) (.int .i64 t.ro) 23 (by simp)
 replace H := H.box_9 (w.heap.size + 2) (.bool (c.o 0)) (.bool (c.o 1)) (.bool (c.o 2)) (.bool (c.o 3)) (.bool (c.o 4)) (.bool (c.o 5)) (.bool (c.o 6)) (.slice aR c.nr cR) (.slice aD c.nd cD) 28 (by simp)
 revert H
 generalize World.alloc _ _ = W0
 intro H
 go_wp2_with fail
 (with_reducible refine (zBb _ (H.factsS)).mono ?_)
 rintro e w1 ⟨rfl, hb⟩
 replace H := H.below hb
 clear hb
 obtain ⟨ct0, ct1, ct2, ct3, ct4, ct5, ct6, ct7, ct8, ct9, ct10⟩ := H.cells11 (w.heap.size + 1)
 have lt := zA0 ct0
 go_wp2_with fail
 clear ct0 ct1 ct2 ct3 ct4 ct5 ct6 ct7 ct8 ct9 ct10 lt
 (with_reducible refine (CK.out _).mono ?_)
 rintro e w2 ⟨rfl, hb⟩
 replace H := H.below hb
 clear hb
 have cn := CNe.out
 have ce := CE.out
 go_wp2
 go_ret
 exact ⟨rfl, H.old⟩
theorem zKa (t : Tm) (c : Ca) (aR : Option Addr) (cR : Nat) (aD : Option Addr) (cD : Nat) (my rt kd wy : Int) (w : World) (hL : FactsS w) (hC : CalAt w c aR cR aD cD) (hc : t.code = 0) (hb : false = true ↔ (c.Few ∧ c.May ∧ t.en - t.st ≤ 31 * 60)) : Calls Tryz.prog 6 #[.agg #[.int .i64 t.mo, .int .i64 t.ra, .int .i64 t.ki, .int .i64 t.co, .int .i64 t.st, .int .i64 t.en, .int .i64 t.ms, .bool t.bk, .bool t.lg, .bool t.eo, .int .i64 t.ro, .bool (c.o 0), .bool (c.o 1), .bool (c.o 2), .bool (c.o 3), .bool (c.o 4), .bool (c.o 5), .bool (c.o 6), .slice aR c.nr cR, .slice aD c.nd cD, .int .i64 my, .int .i64 rt, .int .u8 kd, .int .u8 wy]] w fun e w' => e = .returned (.bool true) ∧ Below w.heap.size w w' := by
 have H := ((Held.start w).add (f := zA9) hL).add (f := calF c aR cR aD cD) hC
 have CK := Lib.hid (fun v => zBw t.mo t.ra t.ki t.co t.st t.en t.ms t.bk t.lg t.eo t.ro 0 v hc)
 have SHT := Lib.hid (fun v h => zCf t c aR cR aD cD 60 false v h hc (by omega) hb)
 clear hc hb
 clear hL hC
 go_enter Tryz.func6, Tryz.ntmps6
 go_upto_region 7 with fail
 replace H := H.alloc (.cells #[.int .i64 t.mo, .int .i64 t.ra, .int .i64 t.ki, .int .i64 t.co, .int .i64 t.st, .int .i64 t.en, .int .i64 t.ms, .bool t.bk, .bool t.lg, .bool t.eo, .int .i64 t.ro, .bool (c.o 0), .bool (c.o 1), .bool (c.o 2), .bool (c.o 3), .bool (c.o 4), .bool (c.o 5), .bool (c.o 6), .slice aR c.nr cR, .slice aD c.nd cD, .int .i64 my, .int .i64 rt, .int .u8 kd, .int .u8 wy] 54)
 replace H := H.box_11 (w.heap.size + 1) (.int .i64 t.mo) (.int .i64 t.ra) (.int .i64 t.ki) (.int .i64 t.co) (.int .i64 t.st) (.int .i64 t.en) (.int .i64 t.ms) (.bool t.bk) (.bool t.lg) (.bool t.eo) (.int .i64 t.ro) 23 (by simp)
 replace H := H.box_9 (w.heap.size + 2) (.bool (c.o 0)) (.bool (c.o 1)) (.bool (c.o 2)) (.bool (c.o 3)) (.bool (c.o 4)) (.bool (c.o 5)) (.bool (c.o 6)) (.slice aR c.nr cR) (.slice aD c.nd cD) 28 (by simp)
 revert H
 generalize World.alloc _ _ = W0
 intro H
 go_wp2_with fail
 (with_reducible refine (zBb _ (H.factsS)).mono ?_)
 rintro e w1 ⟨rfl, hb⟩
 replace H := H.below hb
 clear hb
 obtain ⟨ct0, ct1, ct2, ct3, ct4, ct5, ct6, ct7, ct8, ct9, ct10⟩ := H.cells11 (w.heap.size + 1)
 have lt := zA0 ct0
 go_wp2_with fail
 clear ct0 ct1 ct2 ct3 ct4 ct5 ct6 ct7 ct8 ct9 ct10 lt
 (with_reducible refine (CK.out _).mono ?_)
 rintro e w2 ⟨rfl, hb⟩
 replace H := H.below hb
 clear hb
 obtain ⟨ct0, ct1, ct2, ct3, ct4, ct5, ct6, ct7, ct8, ct9, ct10⟩ := H.cells11 (w.heap.size + 1)
 have lt := zA0 ct0
 obtain ⟨cc0, cc1, cc2, cc3, cc4, cc5, cc6, cc7, cc8⟩ := H.cells9 (w.heap.size + 2)
 have lc := zA0 cc0
 go_wp2_with fail
 clear ct0 ct1 ct2 ct3 ct4 ct5 ct6 ct7 ct8 ct9 ct10 lt cc0 cc1 cc2 cc3 cc4 cc5 cc6 cc7 cc8 lc
 (with_reducible refine (SHT.out _ (H.cal (c := c) (aR := aR) (cR := cR) (aD := aD) (cD := cD))).mono ?_)
 rintro e w3 ⟨rfl, hb⟩
 replace H := H.below hb
 clear hb
 go_wp2
 go_ret
 exact ⟨rfl, H.old⟩
theorem zIg (t : Tm) (c : Ca) (aR : Option Addr) (cR : Nat) (aD : Option Addr) (cD : Nat) (my rt kd wy : Int) (kk u cb : Int) (w : World) (hL : FactsS w) (hC : CalAt w c aR cR aD cD) (hc : t.code = 0) (hF : c.Few) (hM : c.May) (hsh : t.en - t.st ≤ 1860) (hkk : kd % 3 = kk) (huu : wy % 5 = u) (hu : 0 ≤ u ∧ u ≤ 4) (b1 : 0 ≤ kd ∧ kd < 256) (b2 : 0 ≤ wy ∧ wy < 256) (hcb : (Tm.mk my rt kk t.co t.st t.en t.ms t.bk t.lg t.eo t.ro).code = cb) : Calls Tryz.prog 6 #[.agg #[.int .i64 t.mo, .int .i64 t.ra, .int .i64 t.ki, .int .i64 t.co, .int .i64 t.st, .int .i64 t.en, .int .i64 t.ms, .bool t.bk, .bool t.lg, .bool t.eo, .int .i64 t.ro, .bool (c.o 0), .bool (c.o 1), .bool (c.o 2), .bool (c.o 3), .bool (c.o 4), .bool (c.o 5), .bool (c.o 6), .slice aR c.nr cR, .slice aD c.nd cD, .int .i64 my, .int .i64 rt, .int .u8 kd, .int .u8 wy]] w fun e w' => e = .returned (.bool true) ∧ Below w.heap.size w w' := by
 have H := ((Held.start w).add (f := zA9) hL).add (f := calF c aR cR aD cD) hC
 have CK := Lib.hid (fun v => zBw t.mo t.ra t.ki t.co t.st t.en t.ms t.bk t.lg t.eo t.ro 0 v hc)
 have SHT := Lib.hid (fun v h => zCf t c aR cR aD cD 60 true v h hc (by omega) ⟨fun _ => ⟨hF, hM, by omega⟩, fun _ => rfl⟩)
 have CB := Lib.hid (fun v => zBw my rt kk t.co t.st t.en t.ms t.bk t.lg t.eo t.ro cb v hcb)
 obtain ⟨x, hx, hS⟩ := zPx t c (fun _ => by omega)
 have hlk : (Tm.mk my rt kk t.co t.st t.en t.ms t.bk t.lg t.eo t.ro).Like t := ⟨rfl, rfl, rfl, rfl, rfl, rfl, rfl⟩
 have h2 : (Tm.mk t.mo t.ra t.ki t.co t.st t.en t.ms t.bk t.lg t.eo u).code = 0 := t.code_ro hc hu
 obtain ⟨y, hy, hyX, hyE, hym, hyq⟩ := zH1 (Tm.mk t.mo t.ra t.ki t.co t.st t.en t.ms t.bk t.lg t.eo u) c x.X x.E x.m x.q (fun _ => Tm.Like.walk (s := (Tm.mk t.mo t.ra t.ki t.co t.st t.en t.ms t.bk t.lg t.eo u)) (t := t) ⟨rfl, rfl, rfl, rfl, rfl, rfl, rfl⟩ (hx.walk hc)) (fun _ => by rw [Tm.Like.q (s := (Tm.mk t.mo t.ra t.ki t.co t.st t.en t.ms t.bk t.lg t.eo u)) (t := t) ⟨rfl, rfl, rfl, rfl, rfl, rfl, rfl⟩]; exact hx.q hc)
 have hSh := hS hc
 have hSy : y.Short := ⟨by rw [hym]; exact hSh.m, by rw [hyq]; exact hSh.q⟩
 obtain ⟨s, hs⟩ : ∃ s, t = s := ⟨_, rfl⟩
 obtain ⟨d, hd⟩ : ∃ d, (Tm.mk t.mo t.ra t.ki t.co t.st t.en t.ms t.bk t.lg t.eo u) = d := ⟨_, rfl⟩
 have O1 : Hid (∀ v, FactsS v → CalAt v c aR cR aD cD → Calls Tryz.prog 11 #[.agg #[.int .i64 t.mo, .int .i64 t.ra, .int .i64 t.ki, .int .i64 t.co, .int .i64 t.st, .int .i64 t.en, .int .i64 t.ms, .bool t.bk, .bool t.lg, .bool t.eo, .int .i64 t.ro], .agg #[.bool (c.o 0), .bool (c.o 1), .bool (c.o 2), .bool (c.o 3), .bool (c.o 4), .bool (c.o 5), .bool (c.o 6), .slice aR c.nr cR, .slice aD c.nd cD]] v fun e w' => PlanOut x s v.heap.size e w' ∧ Below v.heap.size v w') := Lib.hid (fun v h g => (zDg t c aR cR aD cD x v h g hM hx hS).mono (fun e w' hh => ⟨hs ▸ hh.1, hh.2⟩))
 have O2 : Hid (cb = 0 → ∀ v, FactsS v → CalAt v c aR cR aD cD → Calls Tryz.prog 11 #[.agg #[.int .i64 my, .int .i64 rt, .int .i64 kk, .int .i64 t.co, .int .i64 t.st, .int .i64 t.en, .int .i64 t.ms, .bool t.bk, .bool t.lg, .bool t.eo, .int .i64 t.ro], .agg #[.bool (c.o 0), .bool (c.o 1), .bool (c.o 2), .bool (c.o 3), .bool (c.o 4), .bool (c.o 5), .bool (c.o 6), .slice aR c.nr cR, .slice aD c.nd cD]] v fun e w' => PlanOut x s v.heap.size e w' ∧ Below v.heap.size v w') := Lib.hid (fun z v h g => (zDg (Tm.mk my rt kk t.co t.st t.en t.ms t.bk t.lg t.eo t.ro) c aR cR aD cD x v h g hM (hx.turn hlk rfl hc) (fun _ => hSh)).mono (fun e w' hh => ⟨hs ▸ hh.1.turn hlk (by rw [hcb, hc, z]), hh.2⟩))
 have O3 : Hid (∀ v, FactsS v → CalAt v c aR cR aD cD → Calls Tryz.prog 11 #[.agg #[.int .i64 t.mo, .int .i64 t.ra, .int .i64 t.ki, .int .i64 t.co, .int .i64 t.st, .int .i64 t.en, .int .i64 t.ms, .bool t.bk, .bool t.lg, .bool t.eo, .int .i64 u], .agg #[.bool (c.o 0), .bool (c.o 1), .bool (c.o 2), .bool (c.o 3), .bool (c.o 4), .bool (c.o 5), .bool (c.o 6), .slice aR c.nr cR, .slice aD c.nd cD]] v fun e w' => PlanOut y d v.heap.size e w' ∧ Below v.heap.size v w') := Lib.hid (fun v h g => (zDg (Tm.mk t.mo t.ra t.ki t.co t.st t.en t.ms t.bk t.lg t.eo u) c aR cR aD cD y v h g hM hy (fun _ => hSy)).mono (fun e w' hh => ⟨hd ▸ hh.1, hh.2⟩))
 have n1 : x.n s ≤ 2000 := by unfold Pl.n; have := hSh.q; split <;> omega
 have n2 : x.np s ≤ 2000 := by unfold Pl.np; have := hSh.q; split <;> omega
 have n3 : x.ng s ≤ 2000 := by unfold Pl.ng; have := hSh.k; unfold Pl.ns; split <;> (try split) <;> omega
 have RN : Hid (x.code s = 0 → y.code d = 0 → y.n d = x.n s) := Lib.hid (fun h1 h2 => by unfold Pl.n; rw [if_pos h1, if_pos h2, hyq])
 have RD : Hid (∀ i, s.dd x.X x.q i = d.dd y.X y.q i) := Lib.hid (fun i => by rw [hyX, hyq, ← hd, ← hs]; rfl)
 obtain ⟨e1, he1⟩ : ∃ e1, x.code s = e1 := ⟨_, rfl⟩
 obtain ⟨e3, he3⟩ : ∃ e3, y.code d = e3 := ⟨_, rfl⟩
 have HE1 := Lib.hid he1
 have HE3 := Lib.hid he3
 have HKK := Lib.hid hkk
 have HUU := Lib.hid huu
 have HCB : Hid (cb = 0 ∨ (cb != 0) = true) := Lib.hid (by by_cases z : cb = 0; exact Or.inl z; exact Or.inr (by simpa using z))
 clear hc hF hM hsh hcb hx hS hlk h2 hy hyX hyE hym hyq hSh hSy hd hs hkk huu hu
 clear hL hC
 go_enter Tryz.func6, Tryz.ntmps6
 go_upto_region 7 with fail
 replace H := H.alloc (.cells #[.int .i64 t.mo, .int .i64 t.ra, .int .i64 t.ki, .int .i64 t.co, .int .i64 t.st, .int .i64 t.en, .int .i64 t.ms, .bool t.bk, .bool t.lg, .bool t.eo, .int .i64 t.ro, .bool (c.o 0), .bool (c.o 1), .bool (c.o 2), .bool (c.o 3), .bool (c.o 4), .bool (c.o 5), .bool (c.o 6), .slice aR c.nr cR, .slice aD c.nd cD, .int .i64 my, .int .i64 rt, .int .u8 kd, .int .u8 wy] 54)
 replace H := H.box_11 (w.heap.size + 1) (.int .i64 t.mo) (.int .i64 t.ra) (.int .i64 t.ki) (.int .i64 t.co) (.int .i64 t.st) (.int .i64 t.en) (.int .i64 t.ms) (.bool t.bk) (.bool t.lg) (.bool t.eo) (.int .i64 t.ro) 23 (by simp)
 replace H := H.box_9 (w.heap.size + 2) (.bool (c.o 0)) (.bool (c.o 1)) (.bool (c.o 2)) (.bool (c.o 3)) (.bool (c.o 4)) (.bool (c.o 5)) (.bool (c.o 6)) (.slice aR c.nr cR) (.slice aD c.nd cD) 28 (by simp)
 revert H
 generalize World.alloc _ _ = W0
 intro H
 go_wp2_with fail
 (with_reducible refine (zBb _ (H.factsS)).mono ?_)
 rintro e w1 ⟨rfl, hb⟩
 replace H := H.below hb
 clear hb
 obtain ⟨ct0, ct1, ct2, ct3, ct4, ct5, ct6, ct7, ct8, ct9, ct10⟩ := H.cells11 (w.heap.size + 1)
 have lt := zA0 ct0
 go_wp2_with fail
 clear ct0 ct1 ct2 ct3 ct4 ct5 ct6 ct7 ct8 ct9 ct10 lt
 (with_reducible refine (CK.out _).mono ?_)
 rintro e w2 ⟨rfl, hb⟩
 replace H := H.below hb
 clear hb
 obtain ⟨ct0, ct1, ct2, ct3, ct4, ct5, ct6, ct7, ct8, ct9, ct10⟩ := H.cells11 (w.heap.size + 1)
 have lt := zA0 ct0
 obtain ⟨cc0, cc1, cc2, cc3, cc4, cc5, cc6, cc7, cc8⟩ := H.cells9 (w.heap.size + 2)
 have lc := zA0 cc0
 go_wp2_with fail
 clear ct0 ct1 ct2 ct3 ct4 ct5 ct6 ct7 ct8 ct9 ct10 lt cc0 cc1 cc2 cc3 cc4 cc5 cc6 cc7 cc8 lc
 (with_reducible refine (SHT.out _ (H.cal (c := c) (aR := aR) (cR := cR) (aD := aD) (cD := cD))).mono ?_)
 rintro e w3 ⟨rfl, hb⟩
 replace H := H.below hb
 clear hb
 obtain ⟨ct0, ct1, ct2, ct3, ct4, ct5, ct6, ct7, ct8, ct9, ct10⟩ := H.cells11 (w.heap.size + 1)
 have lt := zA0 ct0
 obtain ⟨cc0, cc1, cc2, cc3, cc4, cc5, cc6, cc7, cc8⟩ := H.cells9 (w.heap.size + 2)
 have lc := zA0 cc0
 go_wp2_with fail
 clear ct0 ct1 ct2 ct3 ct4 ct5 ct6 ct7 ct8 ct9 ct10 lt cc0 cc1 cc2 cc3 cc4 cc5 cc6 cc7 cc8 lc
 (with_reducible refine (O1.out _ (H.factsS) (H.cal (c := c) (aR := aR) (cR := cR) (aD := aD) (cD := cD))).mono ?_)
 rintro e w4 ⟨hp, hb⟩
 obtain ⟨a0, a1, a2, a3, p0, p1, p2, p3, rfl, hd0, hd1, hd2, hd3, hbl⟩ := hp
 replace H := ((((H.below hb).add (f := zA4 a0 (s.dd x.X x.q) (x.n s) p0) hd0).add (f := zA4 a1 x.V (x.n s) p1) hd1).add (f := ratF a2 x.P x.Q (x.np s) p2) hd2).add (f := zA4 a3 x.GV (x.ng s) p3) hd3
 clear hb hd0 hd1 hd2 hd3 hbl
 rw [he1]
 have hkk := HKK.out
 have huu := HUU.out
 obtain ⟨ct0, ct1, ct2, ct3, ct4, ct5, ct6, ct7, ct8, ct9, ct10⟩ := H.cells11 (w.heap.size + 1)
 have lt := zA0 ct0
 obtain ⟨cc0, cc1, cc2, cc3, cc4, cc5, cc6, cc7, cc8⟩ := H.cells9 (w.heap.size + 2)
 have lc := zA0 cc0
 go_upto_region 15 with fail
 clear ct0 ct1 ct2 ct3 ct4 ct5 ct6 ct7 ct8 ct9 ct10 lt cc0 cc1 cc2 cc3 cc4 cc5 cc6 cc7 cc8 lc
 replace H := H.box_7 (w4.heap.size) (.slice a0 (x.n s) p0) (.slice a1 (x.n s) p1) (.slice a2 (x.np s) p2) (.bool (x.eo s)) (.int .i64 (x.en s)) (.int .i64 (x.f s)) (.slice a3 (x.ng s) p3) 35 rfl
 replace H := H.box_11 (w4.heap.size + 1) (.int .i64 my) (.int .i64 rt) (.int .i64 kk) (.int .i64 t.co) (.int .i64 t.st) (.int .i64 t.en) (.int .i64 t.ms) (.bool t.bk) (.bool t.lg) (.bool t.eo) (.int .i64 t.ro) 23 (by simp)
 revert H
 generalize World.alloc _ _ = W5
 intro H
 obtain ⟨cb0, cb1, cb2, cb3, cb4, cb5, cb6, cb7, cb8, cb9, cb10⟩ := H.cells11 (w4.heap.size + 1)
 have lb := zA0 cb0
 go_wp2_with fail
 clear cb0 cb1 cb2 cb3 cb4 cb5 cb6 cb7 cb8 cb9 cb10 lb
 (with_reducible refine (CB.out _).mono ?_)
 rintro e w5 ⟨rfl, hb⟩
 replace H := H.below hb
 clear hb
 rcases HCB.out with hz | hz
 rotate_left
 ·go_wp2
  go_ret
  exact ⟨rfl, H.old⟩
 subst hz
 obtain ⟨cb0, cb1, cb2, cb3, cb4, cb5, cb6, cb7, cb8, cb9, cb10⟩ := H.cells11 (w4.heap.size + 1)
 have lb := zA0 cb0
 obtain ⟨cc0, cc1, cc2, cc3, cc4, cc5, cc6, cc7, cc8⟩ := H.cells9 (w.heap.size + 2)
 have lc := zA0 cc0
 go_wp2_with fail
 clear cb0 cb1 cb2 cb3 cb4 cb5 cb6 cb7 cb8 cb9 cb10 lb cc0 cc1 cc2 cc3 cc4 cc5 cc6 cc7 cc8 lc
 (with_reducible refine (O2.out (by first | rfl | trivial) _ (H.factsS) (H.cal (c := c) (aR := aR) (cR := cR) (aD := aD) (cD := cD))).mono ?_)
 rintro e w6 ⟨hp, hb⟩
 obtain ⟨b0, b1, b2, b3, q0, q1, q2, q3, rfl, hd0, hd1, hd2, hd3, hbl⟩ := hp
 replace H := ((((H.below hb).add (f := zA4 b0 (s.dd x.X x.q) (x.n s) q0) hd0).add (f := zA4 b1 x.V (x.n s) q1) hd1).add (f := ratF b2 x.P x.Q (x.np s) q2) hd2).add (f := zA4 b3 x.GV (x.ng s) q3) hd3
 clear hb hd0 hd1 hd2 hd3 hbl
 rw [he1]
 have huu := HUU.out
 obtain ⟨ct0, ct1, ct2, ct3, ct4, ct5, ct6, ct7, ct8, ct9, ct10⟩ := H.cells11 (w.heap.size + 1)
 have lt := zA0 ct0
 go_upto_region 20 with fail
 clear ct0 ct1 ct2 ct3 ct4 ct5 ct6 ct7 ct8 ct9 ct10 lt huu
 replace H := H.box_7 (w6.heap.size) (.slice b0 (x.n s) q0) (.slice b1 (x.n s) q1) (.slice b2 (x.np s) q2) (.bool (x.eo s)) (.int .i64 (x.en s)) (.int .i64 (x.f s)) (.slice b3 (x.ng s) q3) 35 rfl
 replace H := H.box_11 (w6.heap.size + 1) (.int .i64 t.mo) (.int .i64 t.ra) (.int .i64 t.ki) (.int .i64 t.co) (.int .i64 t.st) (.int .i64 t.en) (.int .i64 t.ms) (.bool t.bk) (.bool t.lg) (.bool t.eo) (.int .i64 u) 23 (by simp)
 revert H
 generalize World.alloc _ _ = W6
 intro H
 obtain ⟨cd0, cd1, cd2, cd3, cd4, cd5, cd6, cd7, cd8, cd9, cd10⟩ := H.cells11 (w6.heap.size + 1)
 have ld := zA0 cd0
 obtain ⟨cc0, cc1, cc2, cc3, cc4, cc5, cc6, cc7, cc8⟩ := H.cells9 (w.heap.size + 2)
 have lc := zA0 cc0
 go_wp2_with fail
 clear cd0 cd1 cd2 cd3 cd4 cd5 cd6 cd7 cd8 cd9 cd10 ld cc0 cc1 cc2 cc3 cc4 cc5 cc6 cc7 cc8 lc
 (with_reducible refine (O3.out _ (H.factsS) (H.cal (c := c) (aR := aR) (cR := cR) (aD := aD) (cD := cD))).mono ?_)
 rintro e w7 ⟨hp, hb⟩
 obtain ⟨r0, r1, r2, r3, o0, o1, o2, o3, rfl, hd0, hd1, hd2, hd3, hbl⟩ := hp
 replace H := ((((H.below hb).add (f := zA4 r0 (d.dd y.X y.q) (y.n d) o0) hd0).add (f := zA4 r1 y.V (y.n d) o1) hd1).add (f := ratF r2 y.P y.Q (y.np d) o2) hd2).add (f := zA4 r3 y.GV (y.ng d) o3) hd3
 clear hb hd0 hd1 hd2 hd3 hbl
 rw [he3]
 go_upto_region 21 with fail
 replace H := H.box_7 (w7.heap.size) (.slice r0 (y.n d) o0) (.slice r1 (y.n d) o1) (.slice r2 (y.np d) o2) (.bool (y.eo d)) (.int .i64 (y.en d)) (.int .i64 (y.f d)) (.slice r3 (y.ng d) o3) 35 rfl
 revert H
 generalize World.alloc _ _ = W7
 intro H
 obtain ⟨ca0, ca1, ca2, ca3, ca4, ca5, ca6⟩ := H.cells7 (w4.heap.size)
 have la := zA0 ca0
 obtain ⟨cx0, cx1, cx2, cx3, cx4, cx5, cx6⟩ := H.cells7 (w6.heap.size)
 have lx := zA0 cx0
 go_wp2_with fail
 clear ca0 ca1 ca2 ca3 ca4 ca5 ca6 la cx0 cx1 cx2 cx3 cx4 cx5 cx6 lx
 (with_reducible refine (zLq a0 a1 a2 a3 b0 b1 b2 b3 (x.n s) (x.np s) (x.ng s) p0 p1 p2 p3 q0 q1 q2 q3 (x.eo s) (x.en s) (x.f s) (s.dd x.X x.q) x.V x.GV x.P x.Q (s.dd x.X x.q) x.V x.GV x.P x.Q _ n1 n2 n3 (H.days (ao := a0) (X := (s.dd x.X x.q)) (n := (x.n s)) (cap := p0)) (H.days (ao := a1) (X := x.V) (n := (x.n s)) (cap := p1)) (H.rat (ao := a2) (P := x.P) (Q := x.Q) (n := (x.np s)) (cap := p2)) (H.days (ao := a3) (X := x.GV) (n := (x.ng s)) (cap := p3)) (H.days (ao := b0) (X := (s.dd x.X x.q)) (n := (x.n s)) (cap := q0)) (H.days (ao := b1) (X := x.V) (n := (x.n s)) (cap := q1)) (H.rat (ao := b2) (P := x.P) (Q := x.Q) (n := (x.np s)) (cap := q2)) (H.days (ao := b3) (X := x.GV) (n := (x.ng s)) (cap := q3)) (fun _ _ => rfl) (fun _ _ => rfl) (fun _ _ => ⟨rfl, rfl⟩) (fun _ _ => rfl)).mono ?_)
 rintro e w8 ⟨rfl, hb⟩
 replace H := H.below hb
 clear hb
 by_cases z1 : e1 = 0
 rotate_left
 ·have y1 : (e1 != 0) = true := by simpa using z1
  go_wp2
  go_ret
  exact ⟨rfl, H.old⟩
 subst z1
 by_cases z3 : e3 = 0
 rotate_left
 ·have y3 : (e3 != 0) = true := by simpa using z3
  go_wp2
  go_ret
  exact ⟨rfl, H.old⟩
 subst z3
 have rn := RN.out HE1.out HE3.out
 have hy0 := H.days (ao := r0) (X := d.dd y.X y.q) (n := y.n d) (cap := o0)
 rw [rn] at hy0
 obtain ⟨ca0, ca1, ca2, ca3, ca4, ca5, ca6⟩ := H.cells7 (w4.heap.size)
 have la := zA0 ca0
 obtain ⟨cy0, cy1, cy2, cy3, cy4, cy5, cy6⟩ := H.cells7 (w7.heap.size)
 have ly := zA0 cy0
 rw [rn] at cy0
 clear rn
 go_wp2_with fail
 clear ca0 ca1 ca2 ca3 ca4 ca5 ca6 la cy0 cy1 cy2 cy3 cy4 cy5 cy6 ly
 (with_reducible refine (zCe a0 (x.n s) p0 (s.dd x.X x.q) r0 o0 (d.dd y.X y.q) _ n1 (H.days (ao := a0) (X := (s.dd x.X x.q)) (n := (x.n s)) (cap := p0)) hy0 (fun i _ => RD.out i)).mono ?_)
 rintro e w9 ⟨rfl, hb⟩
 replace H := H.below hb
 clear hb
 go_wp2
 go_ret
 exact ⟨rfl, H.old⟩
theorem zIh (t : Tm) (c : Ca) (aR : Option Addr) (cR : Nat) (aD : Option Addr) (cD : Nat) (my rt kd wy : Int) (w : World) (hL : FactsS w) (hC : CalAt w c aR cR aD cD) (b1 : 0 ≤ kd ∧ kd < 256) (b2 : 0 ≤ wy ∧ wy < 256) : Calls Tryz.prog 6 #[.agg #[.int .i64 t.mo, .int .i64 t.ra, .int .i64 t.ki, .int .i64 t.co, .int .i64 t.st, .int .i64 t.en, .int .i64 t.ms, .bool t.bk, .bool t.lg, .bool t.eo, .int .i64 t.ro, .bool (c.o 0), .bool (c.o 1), .bool (c.o 2), .bool (c.o 3), .bool (c.o 4), .bool (c.o 5), .bool (c.o 6), .slice aR c.nr cR, .slice aD c.nd cD, .int .i64 my, .int .i64 rt, .int .u8 kd, .int .u8 wy]] w fun e w' => e = .returned (.bool true) ∧ Below w.heap.size w w' := by
 by_cases hc : t.code = 0
 ·by_cases h : c.Few ∧ c.May ∧ t.en - t.st ≤ 31 * 60
  ·exact zIg t c aR cR aD cD my rt kd wy (kd % 3) (wy % 5) _ w hL hC hc h.1 h.2.1 (by have := h.2.2; omega) rfl rfl ⟨by omega, by omega⟩ b1 b2 rfl
  ·exact zKa t c aR cR aD cD my rt kd wy w hL hC hc ⟨fun g => (by cases g), fun g => absurd g h⟩
 ·exact zN5 t c aR cR aD cD my rt kd wy _ w hL hC rfl hc
end Go.Proofs.YtpfgdfpaoldhcaaGreatDoor
