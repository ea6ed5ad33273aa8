/- Several texts in one: ScRolls. -/
import Derived.Test.YtpfgdfpaoldhcaaGreatDoorSrBF
import Derived.Test.YtpfgdfpaoldhcaaGreatDoorSrBI
set_option maxHeartbeats 8000000
set_option maxRecDepth 100000
set_option linter.unusedVariables false
set_option linter.unusedSimpArgs false
namespace Go.Proofs.YtpfgdfpaoldhcaaGreatDoor
open Go.RowKit
theorem zPa (t : Tm) (c : Ca) (aR : Option Addr) (cR : Nat) (aD : Option Addr) (cD : Nat) (y : Int) (w : World) (hL : FactsS w) (hC : CalAt w c aR cR aD cD) (hc : t.code = y) (h0 : y ≠ 0) : Calls Tryz.prog 4 #[.agg #[t.mo, t.ra, t.ki, t.co, t.st, t.en, t.ms, t.bk, t.lg, t.eo, t.ro], .agg #[(c.o 0), (c.o 1), (c.o 2), (c.o 3), (c.o 4), (c.o 5), (c.o 6), .slice aR c.nr cR, .slice aD c.nd cD]] w fun e w' => e = .returned true ∧ Below w w w' := by
 have H := ((Held.start w).add (f := zAg) hL).add (f := calF c aR cR aD cD) hC
 have CK := zh (fun v => zEv t.mo t.ra t.ki t.co t.st t.en t.ms t.bk t.lg t.eo t.ro y v hc)
 have CNe : Hid ((y != 0) = true) := zh (by simpa using h0)
 have CE : Hid ((y == 0) = false) := zh (by simpa using h0)
 clear hc
 clear hL hC
 go_enter Tryz.func4, Tryz.ntmps4
 go_wp2_with fail
 replace H := H.box_11 w t.mo t.ra t.ki t.co t.st t.en t.ms t.bk t.lg t.eo t.ro 23 rfl
 replace H := H.box_9 (w + 1) (c.o 0) (c.o 1) (c.o 2) (c.o 3) (c.o 4) (c.o 5) (c.o 6) (.slice aR c.nr cR) (.slice aD c.nd cD) 28 zs
 revert H
 with_reducible refine zG (fun H => zD0 _ (H.factsS)) ?_
 intro w1 H
 obtain ⟨ct0, ct1, ct2, ct3, ct4, ct5, ct6, ct7, ct8, ct9, ct10⟩ := H.cells11 w
 have lt := zA0 ct0
 go_wp2_with fail
 clear ct0 ct1 ct2 ct3 ct4 ct5 ct6 ct7 ct8 ct9 ct10 lt
 revert H
 with_reducible refine zG (fun _ => CK.out _) ?_
 intro w2 H
 have cn := CNe.out
 have ce := CE.out
 go_wp2
 go_ret
 exact ⟨rfl, H.old⟩
theorem zM0 (t : Tm) (c : Ca) (aR : Option Addr) (cR : Nat) (aD : Option Addr) (cD : Nat) (w : World) (hL : FactsS w) (hC : CalAt w c aR cR aD cD) (hc : t.code = 0) (hb : false = true ↔ (c.Few ∧ c.May ∧ t.en - t.st ≤ 31 * 60)) : Calls Tryz.prog 4 #[.agg #[t.mo, t.ra, t.ki, t.co, t.st, t.en, t.ms, t.bk, t.lg, t.eo, t.ro], .agg #[(c.o 0), (c.o 1), (c.o 2), (c.o 3), (c.o 4), (c.o 5), (c.o 6), .slice aR c.nr cR, .slice aD c.nd cD]] w fun e w' => e = .returned true ∧ Below w w w' := by
 have H := ((Held.start w).add (f := zAg) hL).add (f := calF c aR cR aD cD) hC
 have CK := zh (fun v => zEv t.mo t.ra t.ki t.co t.st t.en t.ms t.bk t.lg t.eo t.ro 0 v hc)
 have SHT := zh (fun v h => zEe t c aR cR aD cD 60 false v h hc zo hb)
 clear hc hb
 clear hL hC
 go_enter Tryz.func4, Tryz.ntmps4
 go_wp2_with fail
 replace H := H.box_11 w t.mo t.ra t.ki t.co t.st t.en t.ms t.bk t.lg t.eo t.ro 23 rfl
 replace H := H.box_9 (w + 1) (c.o 0) (c.o 1) (c.o 2) (c.o 3) (c.o 4) (c.o 5) (c.o 6) (.slice aR c.nr cR) (.slice aD c.nd cD) 28 zs
 revert H
 with_reducible refine zG (fun H => zD0 _ (H.factsS)) ?_
 intro w1 H
 obtain ⟨ct0, ct1, ct2, ct3, ct4, ct5, ct6, ct7, ct8, ct9, ct10⟩ := H.cells11 w
 have lt := zA0 ct0
 go_wp2_with fail
 clear ct0 ct1 ct2 ct3 ct4 ct5 ct6 ct7 ct8 ct9 ct10 lt
 revert H
 with_reducible refine zG (fun _ => CK.out _) ?_
 intro w2 H
 obtain ⟨ct0, ct1, ct2, ct3, ct4, ct5, ct6, ct7, ct8, ct9, ct10⟩ := H.cells11 w
 have lt := zA0 ct0
 obtain ⟨cc0, cc1, cc2, cc3, cc4, cc5, cc6, cc7, cc8⟩ := H.cells9 (w + 1)
 have lc := zA0 cc0
 go_wp2_with fail
 clear ct0 ct1 ct2 ct3 ct4 ct5 ct6 ct7 ct8 ct9 ct10 lt cc0 cc1 cc2 cc3 cc4 cc5 cc6 cc7 cc8 lc
 revert H
 with_reducible refine zG (fun H => SHT.out _ (H.cal (c := c) (aR := aR) (cR := cR) (aD := aD) (cD := cD))) ?_
 intro w3 H
 go_wp2
 go_ret
 exact ⟨rfl, H.old⟩
theorem zLz (t : Tm) (c : Ca) (aR : Option Addr) (cR : Nat) (aD : Option Addr) (cD : Nat) (x : Pl) (y : Int) (w : World) (hL : FactsS w) (hC : CalAt w c aR cR aD cD) (hc : t.code = 0) (hF : c.Few) (hM : c.May) (hsh : t.en - t.st ≤ 1860) (hx : PlanIs t c x) (hS : t.code = 0 → x.Short) (hy : x.code t = y) (h0 : y ≠ 0) : Calls Tryz.prog 4 #[.agg #[t.mo, t.ra, t.ki, t.co, t.st, t.en, t.ms, t.bk, t.lg, t.eo, t.ro], .agg #[(c.o 0), (c.o 1), (c.o 2), (c.o 3), (c.o 4), (c.o 5), (c.o 6), .slice aR c.nr cR, .slice aD c.nd cD]] w fun e w' => e = .returned true ∧ Below w w w' := by
 have H := ((Held.start w).add (f := zAg) hL).add (f := calF c aR cR aD cD) hC
 have CK := zh (fun v => zEv t.mo t.ra t.ki t.co t.st t.en t.ms t.bk t.lg t.eo t.ro 0 v hc)
 have SHT := zh (fun v h => zEe t c aR cR aD cD 60 true v h hc zo ⟨fun _ => ⟨hF, hM, zo⟩, fun _ => rfl⟩)
 have O1 : Hid (∀ v, FactsS v → CalAt v c aR cR aD cD → Calls Tryz.prog 11 #[.agg #[t.mo, t.ra, t.ki, t.co, t.st, t.en, t.ms, t.bk, t.lg, t.eo, t.ro], .agg #[(c.o 0), (c.o 1), (c.o 2), (c.o 3), (c.o 4), (c.o 5), (c.o 6), .slice aR c.nr cR, .slice aD c.nd cD]] v fun e w' => PlanOut x t v.heap.size e w' ∧ Below v v w') := zh (fun v h g => zIv t c aR cR aD cD x v h g hM hx hS)
 have Y0 : Hid ((y != 0) = true) := zh (by simpa using h0)
 have HB := zh (fun n0 e W (h : PlanOut x t n0 e W) => h.bad hy h0)
 clear hc hF hM hsh hx hS hy
 clear hL hC
 go_enter Tryz.func4, Tryz.ntmps4
 go_wp2_with fail
 replace H := H.box_11 w t.mo t.ra t.ki t.co t.st t.en t.ms t.bk t.lg t.eo t.ro 23 rfl
 replace H := H.box_9 (w + 1) (c.o 0) (c.o 1) (c.o 2) (c.o 3) (c.o 4) (c.o 5) (c.o 6) (.slice aR c.nr cR) (.slice aD c.nd cD) 28 zs
 revert H
 with_reducible refine zG (fun H => zD0 _ (H.factsS)) ?_
 intro w1 H
 obtain ⟨ct0, ct1, ct2, ct3, ct4, ct5, ct6, ct7, ct8, ct9, ct10⟩ := H.cells11 w
 have lt := zA0 ct0
 go_wp2_with fail
 clear ct0 ct1 ct2 ct3 ct4 ct5 ct6 ct7 ct8 ct9 ct10 lt
 revert H
 with_reducible refine zG (fun _ => CK.out _) ?_
 intro w2 H
 obtain ⟨ct0, ct1, ct2, ct3, ct4, ct5, ct6, ct7, ct8, ct9, ct10⟩ := H.cells11 w
 have lt := zA0 ct0
 obtain ⟨cc0, cc1, cc2, cc3, cc4, cc5, cc6, cc7, cc8⟩ := H.cells9 (w + 1)
 have lc := zA0 cc0
 go_wp2_with fail
 clear ct0 ct1 ct2 ct3 ct4 ct5 ct6 ct7 ct8 ct9 ct10 lt cc0 cc1 cc2 cc3 cc4 cc5 cc6 cc7 cc8 lc
 revert H
 with_reducible refine zG (fun H => SHT.out _ (H.cal (c := c) (aR := aR) (cR := cR) (aD := aD) (cD := cD))) ?_
 intro w3 H
 obtain ⟨ct0, ct1, ct2, ct3, ct4, ct5, ct6, ct7, ct8, ct9, ct10⟩ := H.cells11 w
 have lt := zA0 ct0
 obtain ⟨cc0, cc1, cc2, cc3, cc4, cc5, cc6, cc7, cc8⟩ := H.cells9 (w + 1)
 have lc := zA0 cc0
 go_wp2_with fail
 clear ct0 ct1 ct2 ct3 ct4 ct5 ct6 ct7 ct8 ct9 ct10 lt cc0 cc1 cc2 cc3 cc4 cc5 cc6 cc7 cc8 lc
 with_reducible refine (O1.out _ (H.factsS) (H.cal (c := c) (aR := aR) (cR := cR) (aD := aD) (cD := cD))).mono ?_
 rintro e w4 ⟨hp, hb⟩
 obtain ⟨a0, a1, a2, a3, c0, c1, c2, c3, rfl⟩ := HB.out _ _ _ hp
 replace H := H.below hb
 have y0 := Y0.out
 clear hb hp
 go_wp2
 go_ret
 have hs := H.size
 exact ⟨rfl, by first | exact H.old | exact H.old.alloc hs _⟩
theorem zqbkct {P : Prop} (h : P := by
 intro w hSw; (try dsimp only at hSw); go_simp; try with_reducible rfl) : P := h
theorem zqbhse {P : Prop} (h : P := by
 intro w hSw; (try dsimp only at hSw); go_simp; (try rw [if_pos zo]); (try with_reducible rfl); (try omega)) : P := h
theorem zK8 (t : Tm) (c : Ca) (aR : Option Addr) (cR : Nat) (aD : Option Addr) (cD : Nat) (x : Pl) (w : World) (hL : FactsS w) (hC : CalAt w c aR cR aD cD) (hc : t.code = 0) (hF : c.Few) (hM : c.May) (hsh : t.en - t.st ≤ 1860) (hx : PlanIs t c x) (hS : t.code = 0 → x.Short) (hy : x.code t = 0) : Calls Tryz.prog 4 #[.agg #[t.mo, t.ra, t.ki, t.co, t.st, t.en, t.ms, t.bk, t.lg, t.eo, t.ro], .agg #[(c.o 0), (c.o 1), (c.o 2), (c.o 3), (c.o 4), (c.o 5), (c.o 6), .slice aR c.nr cR, .slice aD c.nd cD]] w fun e w' => e = .returned true ∧ Below w w w' := by
 have H := ((Held.start w).add (f := zAg) hL).add (f := calF c aR cR aD cD) hC
 have CK := zh (fun v => zEv t.mo t.ra t.ki t.co t.st t.en t.ms t.bk t.lg t.eo t.ro 0 v hc)
 have SHT := zh (fun v h => zEe t c aR cR aD cD 60 true v h hc zo ⟨fun _ => ⟨hF, hM, zo⟩, fun _ => rfl⟩)
 have O1 : Hid (∀ v, FactsS v → CalAt v c aR cR aD cD → Calls Tryz.prog 11 #[.agg #[t.mo, t.ra, t.ki, t.co, t.st, t.en, t.ms, t.bk, t.lg, t.eo, t.ro], .agg #[(c.o 0), (c.o 1), (c.o 2), (c.o 3), (c.o 4), (c.o 5), (c.o 6), .slice aR c.nr cR, .slice aD c.nd cD]] v fun e w' => PlanOut x t v.heap.size e w' ∧ Below v v w') := zh (fun v h g => zIv t c aR cR aD cD x v h g hM hx hS)
 have HB := zh (fun n0 e W (h : PlanOut x t n0 e W) => h.fine hy)
 obtain ⟨-, hC0, -, -⟩ := Pl.good hy
 have D0 : Hid ((t.dd x.X x.q) 0 = t.st) := zh (Tm.dd_zero t x.X x.q (hx.walk hc).x0)
 have DE : Hid ((t.dd x.X x.q) (x.q + 1) = t.en) := zh (Tm.dd_end t x.X x.q (hx.walk hc).x0)
 have RT : Hid (∀ i v, i < x.q + 2 → CalAt v c aR cR aD cD → Calls Tryz.prog 15 #[.agg #[(c.o 0), (c.o 1), (c.o 2), (c.o 3), (c.o 4), (c.o 5), (c.o 6), .slice aR c.nr cR, .slice aD c.nd cD], .int .i64 ((t.dd x.X x.q) i), t.ro] v fun e w' => e = .returned (.tuple #[.int .i64 (x.V i), (0:Int)]) ∧ Below v v w') := zh (fun i v hi g => rto14 c aR cR aD cD ((t.dd x.X x.q) i) t.ro (x.V i) 0 v hF.small hM.2.2.2.1 g (by have h := hx.roll i hi; rw [hC0 i hi] at h; exact h))
 have IS : Hid (∀ i v, i < x.q + 2 → t.ro ≠ 0 → CalAt v c aR cR aD cD → Calls Tryz.prog 16 #[.agg #[(c.o 0), (c.o 1), (c.o 2), (c.o 3), (c.o 4), (c.o 5), (c.o 6), .slice aR c.nr cR, .slice aD c.nd cD], .int .i64 (x.V i)] v fun e w' => e = .returned true ∧ Below v v w') := zh (fun i v hi hr g => zCz c aR cR aD cD (x.V i) true v hF.small hM.2.2.2.1 g ⟨fun _ => by have h := hx.roll i hi; rw [hC0 i hi] at h; exact h.isday hr, fun _ => rfl⟩)
 have UP : Hid (∀ i, i + 1 < x.q + 2 → x.V i ≤ x.V (i + 1) ∧ (t.dd x.X x.q) i < (t.dd x.X x.q) (i + 1)) := zh (fun i hi => ⟨hx.rolls hc hC0 hi, (hx.walk hc).dd_rise (t.of_zero hc).2.2.1 (hx.qm hc) i hi⟩)
 have hSq := (hS hc).q
 clear hc hF hM hsh hx hS hy hC0
 clear hL hC
 go_enter Tryz.func4, Tryz.ntmps4
 go_wp2_with fail
 replace H := H.box_11 w t.mo t.ra t.ki t.co t.st t.en t.ms t.bk t.lg t.eo t.ro 23 rfl
 replace H := H.box_9 (w + 1) (c.o 0) (c.o 1) (c.o 2) (c.o 3) (c.o 4) (c.o 5) (c.o 6) (.slice aR c.nr cR) (.slice aD c.nd cD) 28 zs
 revert H
 with_reducible refine zG (fun H => zD0 _ (H.factsS)) ?_
 intro w1 H
 obtain ⟨ct0, ct1, ct2, ct3, ct4, ct5, ct6, ct7, ct8, ct9, ct10⟩ := H.cells11 w
 have lt := zA0 ct0
 go_wp2_with fail
 clear ct0 ct1 ct2 ct3 ct4 ct5 ct6 ct7 ct8 ct9 ct10 lt
 revert H
 with_reducible refine zG (fun _ => CK.out _) ?_
 intro w2 H
 obtain ⟨ct0, ct1, ct2, ct3, ct4, ct5, ct6, ct7, ct8, ct9, ct10⟩ := H.cells11 w
 have lt := zA0 ct0
 obtain ⟨cc0, cc1, cc2, cc3, cc4, cc5, cc6, cc7, cc8⟩ := H.cells9 (w + 1)
 have lc := zA0 cc0
 go_wp2_with fail
 clear ct0 ct1 ct2 ct3 ct4 ct5 ct6 ct7 ct8 ct9 ct10 lt cc0 cc1 cc2 cc3 cc4 cc5 cc6 cc7 cc8 lc
 revert H
 with_reducible refine zG (fun H => SHT.out _ (H.cal (c := c) (aR := aR) (cR := cR) (aD := aD) (cD := cD))) ?_
 intro w3 H
 obtain ⟨ct0, ct1, ct2, ct3, ct4, ct5, ct6, ct7, ct8, ct9, ct10⟩ := H.cells11 w
 have lt := zA0 ct0
 obtain ⟨cc0, cc1, cc2, cc3, cc4, cc5, cc6, cc7, cc8⟩ := H.cells9 (w + 1)
 have lc := zA0 cc0
 go_wp2_with fail
 clear ct0 ct1 ct2 ct3 ct4 ct5 ct6 ct7 ct8 ct9 ct10 lt cc0 cc1 cc2 cc3 cc4 cc5 cc6 cc7 cc8 lc
 with_reducible refine (O1.out _ (H.factsS) (H.cal (c := c) (aR := aR) (cR := cR) (aD := aD) (cD := cD))).mono ?_
 rintro e w4 ⟨hp, hb⟩
 obtain ⟨a0, a1, a2, a3, c0, c1, c2, c3, rfl, hd0, hd1, hd2, hd3⟩ := HB.out _ _ _ hp
 obtain ⟨g0, o0, rfl, hk0⟩ := hd0.2 zo
 obtain ⟨g1, o1, rfl, hk1⟩ := hd1.2 zo
 have hcc0 := hd0.1
 have hcc1 := hd1.1
 replace H := ((H.below hb).add (f := zAb (some ⟨g0, o0, none⟩) (t.dd x.X x.q) (x.q + 1 + 1) c0) hd0).add (f := zAb (some ⟨g1, o1, none⟩) x.V (x.q + 1 + 1) c1) hd1
 have k0 := hk0 0 zo
 have kn := hk0 (x.q + 1) zo
 rw [Nat.add_zero, D0.out] at k0
 rw [DE.out] at kn
 replace H := (H.add (f := .cell g0 o0 t.st) k0).add (f := .cell g0 (o0 + (x.q + 1)) t.en) kn
 clear hb hp hd0 hd1 hd2 hd3 hk0 hk1 k0 kn
 go_upto_region 5 with fail
 replace H := H.box_7 w4 (.slice (some ⟨g0, o0, none⟩) (x.q + 1 + 1) c0) (.slice (some ⟨g1, o1, none⟩) (x.q + 1 + 1) c1) (.slice a2 (x.q + 1) c2) t.eo (x.V (x.q + 1):Int) (fr t.ms) (.slice a3 (x.ns t) c3) 35 rfl
 revert H
 generalize World.alloc _ _ = W5
 intro H
 obtain ⟨ct0, ct1, ct2, ct3, ct4, ct5, ct6, ct7, ct8, ct9, ct10⟩ := H.cells11 w
 have lt := zA0 ct0
 obtain ⟨cp0, cp1, cp2, cp3, cp4, cp5, cp6⟩ := H.cells7 w4
 have lp := zA0 cp0
 have k0 := H.cell g0 o0 _
 have kn := H.cell g0 (o0 + (x.q + 1)) _
 have t1 : decide (((x.q : Int) + 1 + 1) < 2) = false := decide_eq_false zo
 go_upto_region 8 with fail
 go_quiet (fail)
 clear k0 kn t1 ct0 ct1 ct2 ct3 ct4 ct5 ct6 ct7 ct8 ct9 ct10 lt cp0 cp1 cp2 cp3 cp4 cp5 cp6 lp
 replace H := H.drewN nq
 obtain ⟨W6, hW6⟩ : ∃ W6, World.drewN W5 nq = W6 := ⟨_, rfl⟩
 rw [hW6] at H ⊢
 clear hW6
 have hw6 := H.size
 have HH := zh H
 clear H
 go_wp2_with fail
 go_loopw [9, 10, 11] (fun i s10 s11 wr => ∃ k : Nat, k ≤ x.q + 2 ∧ i = .int .i64 (k : Int) ∧ Below W6 W6 wr) (fun i _ _ _ => x.q + 2 - (intOf i).toNat)
 case atStart => exact ⟨0, zo, rfl, Below.refl _ _⟩
 case round =>
  obtain ⟨k, hk, rfl, hB⟩ := hrel
  have H := HH.out.below hB
  have HBx := zh hB
  have HZx : Hid (∀ W, Below W6 W6 W → W6.heap.size ≤ W.heap.size) := zh (fun W h => h.size)
  clear hB
  by_cases hlt : k < x.q + 2
  ·obtain ⟨bb, oo, ee, hcA⟩ := (H.days (ao := (some ⟨g0, o0, none⟩)) (X := (t.dd x.X x.q)) (n := (x.q + 1 + 1)) (cap := c0)).2 zo
   injection ee with ee
   injection ee with e1 e2 _
   subst e1 e2
   obtain ⟨bb, oo, ee, hcB⟩ := (H.days (ao := (some ⟨g1, o1, none⟩)) (X := x.V) (n := (x.q + 1 + 1)) (cap := c1)).2 zo
   injection ee with ee
   injection ee with e1 e2 _
   subst e1 e2
   match k, hk, hlt with
   | 0, hk, hlt =>
    obtain ⟨dk, hdk⟩ : ∃ z, (t.dd x.X x.q) 0 = z := ⟨_, rfl⟩
    obtain ⟨vk, hvk⟩ : ∃ z, x.V 0 = z := ⟨_, rfl⟩
    have R1 := zh (fun v g => RT.out 0 v zo g)
    have I1 := zh (fun v hr g => IS.out 0 v zo hr g)
    have ka := hcA 0 zo
    have kb := hcB 0 zo
    rw [hdk, hvk] at R1
    rw [hvk] at I1
    rw [hdk] at ka
    rw [hvk] at kb
    rw [Nat.add_zero] at ka kb
    replace H := (H.add (f := .cell g0 (o0) dk) ka).add (f := .cell g1 (o1) vk) kb
    have HLT := zh hlt
    clear ka kb hcA hcB hdk hvk
    go_upto_region 13 with fail
    by_cases hr : t.ro = 0
    ·have tr : (t.ro != 0) = false := by simpa using hr
     clear hr I1
     obtain ⟨i0, hi, hz0, hz1, hz2⟩ := info_parts zAo
     replace H := H.drew
     refine wp_region_held_drew (S := fun w' => w'.cell? ⟨w + 1, 0, none⟩ = some (.bool (c.o 0)) ∧ w'.cell? ⟨w + 1, 1, none⟩ = some (.bool (c.o 1)) ∧ w'.cell? ⟨w + 1, 2, none⟩ = some (.bool (c.o 2)) ∧ w'.cell? ⟨w + 1, 3, none⟩ = some (.bool (c.o 3)) ∧ w'.cell? ⟨w + 1, 4, none⟩ = some (.bool (c.o 4)) ∧ w'.cell? ⟨w + 1, 5, none⟩ = some (.bool (c.o 5)) ∧ w'.cell? ⟨w + 1, 6, none⟩ = some (.bool (c.o 6)) ∧ w'.cell? ⟨w + 1, 7, none⟩ = some (.slice aR c.nr cR) ∧ w'.cell? ⟨w + 1, 8, none⟩ = some (.slice aD c.nd cD) ∧ w'.cell? ⟨w4, 0, none⟩ = some (.slice (some ⟨g0, o0, none⟩) (x.q + 1 + 1) c0) ∧ w'.cell? ⟨g0, o0, none⟩ = some (.int .i64 dk) ∧ w'.cell? ⟨w, 10, none⟩ = some (.int .i64 t.ro)) zk (⟨H.c, H.c, H.c, H.c, H.c, H.c, H.c, H.c, H.c, H.c, H.c, H.c⟩) (fun hHeld => ?_)
     replace HBx := zh (HBx.out.drew)
     obtain ⟨WD, hWD⟩ : ∃ WD, World.drew (wr) = WD := ⟨_, rfl⟩
     rw [hWD] at H hHeld HBx ⊢
     clear hWD
     obtain ⟨b0, hb0⟩ : ∃ b0, WD.heap.size = b0 := ⟨_, rfl⟩
     have HB := Below.refl b0 WD
     have HWD := zh H
     have HS : Hid (∀ W, Below b0 WD W → b0 ≤ W.heap.size) := zh (fun W h => by have z := h.size; rw [hb0] at z; exact z)
     have HU : Hid (∀ W, Below b0 WD W → Below WD WD W) := zh (fun W h => by rw [hb0]; exact h)
     clear hb0
     refine wpAnyH_take (i := 0) (oi := ⟨some 94, _, _, _, _, _⟩) (v := ?_) rfl zk zk zk (fun _ _ _ h => h) (Or.inl ⟨zr, ?_⟩) za ?_
     rotate_left
     ·exact zqbkct
     go_frame
     refine wpAnyH_take (i := 1) (oi := ⟨some 95, _, _, _, _, _⟩) (v := ?_) rfl zk zk zk (fun _ _ _ h => h) (Or.inl ⟨zr, ?_⟩) za ?_
     rotate_left
     ·exact zqbkct
     go_frame
     refine wpAnyH_take (i := 2) (oi := ⟨some 96, _, _, _, _, _⟩) (v := ?_) rfl zk zk zk (fun _ _ _ h => h) (Or.inl ⟨zr, ?_⟩) za ?_
     rotate_left
     ·exact zqbkct
     go_frame
     refine wpAnyH_take (i := 3) (oi := ⟨some 97, _, _, _, _, _⟩) (v := ?_) rfl zk zk zk (fun _ _ _ h => h) (Or.inl ⟨zr, ?_⟩) za ?_
     rotate_left
     ·exact zqbkct
     go_frame
     refine wpAnyH_take (i := 4) (oi := ⟨some 98, _, _, _, _, _⟩) (v := .pointer (some ⟨g0, o0, none⟩)) rfl zk zk zk (fun _ _ _ h => h) (Or.inl ⟨zr, ?_⟩) za ?_
     ·exact zqbhse
     go_frame
     refine wpAnyH_take (i := 5) (oi := ⟨some 99, _, _, _, _, _⟩) (v := ?_) rfl zk zk zk (fun _ _ _ h => h) (Or.inl ⟨zr, ?_⟩) za ?_
     rotate_left
     ·exact zqbkct
     go_frame
     refine wpAnyH_take (i := 6) (oi := ⟨some 100, _, _, _, _, _⟩) (v := ?_) rfl zk zk zk (fun _ _ _ h => h) (Or.inl ⟨zr, ?_⟩) za ?_
     rotate_left
     ·exact zqbkct
     go_frame
     refine wpAnyH_take (i := 7) (oi := ⟨some 101, _, _, _, _, _⟩) (v := ?_) rfl zk zk zk (fun _ _ _ h => h) (Or.inl ⟨zr, ?_⟩) za ?_
     rotate_left
     ·exact zqbkct
     go_frame
     refine wpAnyH_ready (rs := [8]) zk zs ?_
     refine AllReadyH.cons (o := ⟨some 102, _, _, _, _, _⟩) rfl (fun K hK => ?_) AllReadyH.nil
     go_simp
     with_reducible refine (R1.out _ (H.cal (c := c) (aR := aR) (cR := cR) (aD := aD) (cD := cD))).mono ?_
     rintro e UA1 ⟨rfl, hb⟩
     replace H := H.below hb
     replace HB := HB.trans (hb.mono (HS.out _ HB))
     replace HBx := zh (HBx.out.trans (hb.mono (HZx.out _ HBx.out)))
     clear hb
     go_wp2_with fail
     refine hK.out _ _ (⟨H.c, H.c, H.c, H.c, H.c, H.c, H.c, H.c, H.c, H.c, H.c, H.c⟩) (fun hNew => ?_)
     clear hK K hHeld
     have hHeld := hNew
     clear hNew
     try go_frame
     refine wpAnyH_take (i := 9) (oi := ⟨some 93, _, _, _, _, _⟩) (v := ?_) rfl zk zk zk (fun _ _ _ h => h) (Or.inl ⟨zr, ?_⟩) za ?_
     rotate_left
     ·exact zqbkct
     go_frame
     refine wpAnyH_take (i := 10) (oi := ⟨some 103, _, _, _, _, _⟩) (v := ?_) rfl zk zk zk (fun _ _ _ h => h) (Or.inl ⟨zr, ?_⟩) za ?_
     rotate_left
     ·exact zqbkct
     go_frame
     refine wpAnyH_take (i := 11) (oi := ⟨some 104, _, _, _, _, _⟩) (v := ?_) rfl zk zk zk (fun _ _ _ h => h) (Or.inl ⟨zr, ?_⟩) za ?_
     rotate_left
     ·exact zqbkct
     go_frame
     refine wpAnyH_take (i := 12) (oi := ⟨some 10, _, _, _, _, _⟩) (v := ?_) rfl zk zk zk (fun _ _ _ h => h) (Or.inl ⟨zr, ?_⟩) za ?_
     rotate_left
     ·exact zqbkct
     go_frame
     refine wpAnyH_take (i := 13) (oi := ⟨some 11, _, _, _, _, _⟩) (v := ?_) rfl zk zk zk (fun _ _ _ h => h) (Or.inl ⟨zr, ?_⟩) za ?_
     rotate_left
     ·exact zqbkct
     go_frame
     refine wpAnyH_done zk ?_ _
     clear hHeld
     clear HB HWD HS HU
     go_upto_region 14 with fail
     obtain ⟨i0, hi, hz0, hz1, hz2⟩ := info_parts zAo
     replace H := H.drew
     refine wp_region_held_drew (S := fun w' => w'.cell? ⟨w + 1, 0, none⟩ = some (.bool (c.o 0)) ∧ w'.cell? ⟨w + 1, 1, none⟩ = some (.bool (c.o 1)) ∧ w'.cell? ⟨w + 1, 2, none⟩ = some (.bool (c.o 2)) ∧ w'.cell? ⟨w + 1, 3, none⟩ = some (.bool (c.o 3)) ∧ w'.cell? ⟨w + 1, 4, none⟩ = some (.bool (c.o 4)) ∧ w'.cell? ⟨w + 1, 5, none⟩ = some (.bool (c.o 5)) ∧ w'.cell? ⟨w + 1, 6, none⟩ = some (.bool (c.o 6)) ∧ w'.cell? ⟨w + 1, 7, none⟩ = some (.slice aR c.nr cR) ∧ w'.cell? ⟨w + 1, 8, none⟩ = some (.slice aD c.nd cD) ∧ w'.cell? ⟨w4, 0, none⟩ = some (.slice (some ⟨g0, o0, none⟩) (x.q + 1 + 1) c0) ∧ w'.cell? ⟨w4, 1, none⟩ = some (.slice (some ⟨g1, o1, none⟩) (x.q + 1 + 1) c1) ∧ w'.cell? ⟨g0, o0, none⟩ = some (.int .i64 dk) ∧ w'.cell? ⟨g1, o1, none⟩ = some (.int .i64 vk) ∧ w'.cell? ⟨w, 10, none⟩ = some (.int .i64 t.ro)) zk (⟨H.c, H.c, H.c, H.c, H.c, H.c, H.c, H.c, H.c, H.c, H.c, H.c, H.c, H.c⟩) (fun hHeld => ?_)
     replace HBx := zh (HBx.out.drew)
     obtain ⟨WD, hWD⟩ : ∃ WD, World.drew (UA1) = WD := ⟨_, rfl⟩
     rw [hWD] at H hHeld HBx ⊢
     clear hWD
     obtain ⟨b0, hb0⟩ : ∃ b0, WD.heap.size = b0 := ⟨_, rfl⟩
     have HB := Below.refl b0 WD
     have HWD := zh H
     have HS : Hid (∀ W, Below b0 WD W → b0 ≤ W.heap.size) := zh (fun W h => by have z := h.size; rw [hb0] at z; exact z)
     have HU : Hid (∀ W, Below b0 WD W → Below WD WD W) := zh (fun W h => by rw [hb0]; exact h)
     clear hb0
     refine wpAnyH_take (i := 0) (oi := ⟨some 105, _, _, _, _, _⟩) (v := ?_) rfl zk zk zk (fun _ _ _ h => h) (Or.inl ⟨zr, ?_⟩) za ?_
     rotate_left
     ·exact zqbkct
     go_frame
     refine wpAnyH_take (i := 1) (oi := ⟨some 106, _, _, _, _, _⟩) (v := ?_) rfl zk zk zk (fun _ _ _ h => h) (Or.inl ⟨zr, ?_⟩) za ?_
     rotate_left
     ·exact zqbkct
     go_frame
     refine wpAnyH_take (i := 2) (oi := ⟨some 107, _, _, _, _, _⟩) (v := ?_) rfl zk zk zk (fun _ _ _ h => h) (Or.inl ⟨zr, ?_⟩) za ?_
     rotate_left
     ·exact zqbkct
     go_frame
     refine wpAnyH_take (i := 3) (oi := ⟨some 108, _, _, _, _, _⟩) (v := ?_) rfl zk zk zk (fun _ _ _ h => h) (Or.inl ⟨zr, ?_⟩) za ?_
     rotate_left
     ·exact zqbkct
     go_frame
     refine wpAnyH_take (i := 4) (oi := ⟨some 109, _, _, _, _, _⟩) (v := ?_) rfl zk zk zk (fun _ _ _ h => h) (Or.inl ⟨zr, ?_⟩) za ?_
     rotate_left
     ·exact zqbkct
     go_frame
     refine wpAnyH_take (i := 5) (oi := ⟨some 110, _, _, _, _, _⟩) (v := ?_) rfl zk zk zk (fun _ _ _ h => h) (Or.inl ⟨zr, ?_⟩) za ?_
     rotate_left
     ·exact zqbkct
     go_frame
     refine wpAnyH_take (i := 6) (oi := ⟨some 111, _, _, _, _, _⟩) (v := .pointer (some ⟨g1, o1, none⟩)) rfl zk zk zk (fun _ _ _ h => h) (Or.inl ⟨zr, ?_⟩) za ?_
     ·exact zqbhse
     go_frame
     refine wpAnyH_take (i := 7) (oi := ⟨some 112, _, _, _, _, _⟩) (v := ?_) rfl zk zk zk (fun _ _ _ h => h) (Or.inl ⟨zr, ?_⟩) za ?_
     rotate_left
     ·exact zqbkct
     go_frame
     refine wpAnyH_take (i := 8) (oi := ⟨some 113, _, _, _, _, _⟩) (v := ?_) rfl zk zk zk (fun _ _ _ h => h) (Or.inl ⟨zr, ?_⟩) za ?_
     rotate_left
     ·exact zqbkct
     go_frame
     refine wpAnyH_take (i := 9) (oi := ⟨some 114, _, _, _, _, _⟩) (v := ?_) rfl zk zk zk (fun _ _ _ h => h) (Or.inl ⟨zr, ?_⟩) za ?_
     rotate_left
     ·exact zqbkct
     go_frame
     refine wpAnyH_take (i := 10) (oi := ⟨some 115, _, _, _, _, _⟩) (v := ?_) rfl zk zk zk (fun _ _ _ h => h) (Or.inl ⟨zr, ?_⟩) za ?_
     rotate_left
     ·exact zqbkct
     go_frame
     refine wpAnyH_take (i := 11) (oi := ⟨some 116, _, _, _, _, _⟩) (v := ?_) rfl zk zk zk (fun _ _ _ h => h) (Or.inl ⟨zr, ?_⟩) za ?_
     rotate_left
     ·exact zqbkct
     go_frame
     refine wpAnyH_take (i := 12) (oi := ⟨some 117, _, _, _, _, _⟩) (v := ?_) rfl zk zk zk (fun _ _ _ h => h) (Or.inl ⟨zr, ?_⟩) za ?_
     rotate_left
     ·exact zqbkct
     go_frame
     refine wpAnyH_take (i := 13) (oi := ⟨some 118, _, _, _, _, _⟩) (v := ?_) rfl zk zk zk (fun _ _ _ h => h) (Or.inl ⟨zr, ?_⟩) za ?_
     rotate_left
     ·exact zqbkct
     go_frame
     refine wpAnyH_take (i := 14) (oi := ⟨some 119, _, _, _, _, _⟩) (v := ?_) rfl zk zk zk (fun _ _ _ h => h) (Or.inl ⟨zr, ?_⟩) za ?_
     rotate_left
     ·exact zqbkct
     go_frame
     refine wpAnyH_take (i := 15) (oi := ⟨some 120, _, _, _, _, _⟩) (v := undef) rfl zk zk zk (fun _ _ _ h => h) (Or.inr ⟨zr, rfl⟩) za ?_
     go_frame
     refine wpAnyH_take (i := 16) (oi := ⟨some 121, _, _, _, _, _⟩) (v := undef) rfl zk zk zk (fun _ _ _ h => h) (Or.inr ⟨zr, rfl⟩) za ?_
     go_frame
     refine wpAnyH_take (i := 17) (oi := ⟨some 122, _, _, _, _, _⟩) (v := undef) rfl zk zk zk (fun _ _ _ h => h) (Or.inr ⟨zr, rfl⟩) za ?_
     go_frame
     refine wpAnyH_take (i := 18) (oi := ⟨some 123, _, _, _, _, _⟩) (v := undef) rfl zk zk zk (fun _ _ _ h => h) (Or.inr ⟨zr, rfl⟩) za ?_
     go_frame
     refine wpAnyH_take (i := 19) (oi := ⟨some 124, _, _, _, _, _⟩) (v := undef) rfl zk zk zk (fun _ _ _ h => h) (Or.inr ⟨zr, rfl⟩) za ?_
     go_frame
     refine wpAnyH_take (i := 20) (oi := ⟨some 125, _, _, _, _, _⟩) (v := undef) rfl zk zk zk (fun _ _ _ h => h) (Or.inr ⟨zr, rfl⟩) za ?_
     go_frame
     refine wpAnyH_take (i := 21) (oi := ⟨some 126, _, _, _, _, _⟩) (v := undef) rfl zk zk zk (fun _ _ _ h => h) (Or.inr ⟨zr, rfl⟩) za ?_
     go_frame
     refine wpAnyH_take (i := 22) (oi := ⟨some 127, _, _, _, _, _⟩) (v := undef) rfl zk zk zk (fun _ _ _ h => h) (Or.inr ⟨zr, rfl⟩) za ?_
     go_frame
     refine wpAnyH_take (i := 23) (oi := ⟨some 128, _, _, _, _, _⟩) (v := undef) rfl zk zk zk (fun _ _ _ h => h) (Or.inr ⟨zr, rfl⟩) za ?_
     go_frame
     refine wpAnyH_take (i := 24) (oi := ⟨some 129, _, _, _, _, _⟩) (v := undef) rfl zk zk zk (fun _ _ _ h => h) (Or.inr ⟨zr, rfl⟩) za ?_
     go_frame
     refine wpAnyH_take (i := 25) (oi := ⟨some 130, _, _, _, _, _⟩) (v := undef) rfl zk zk zk (fun _ _ _ h => h) (Or.inr ⟨zr, rfl⟩) za ?_
     go_frame
     refine wpAnyH_take (i := 26) (oi := ⟨some 131, _, _, _, _, _⟩) (v := undef) rfl zk zk zk (fun _ _ _ h => h) (Or.inr ⟨zr, rfl⟩) za ?_
     go_frame
     refine wpAnyH_take (i := 27) (oi := ⟨some 132, _, _, _, _, _⟩) (v := undef) rfl zk zk zk (fun _ _ _ h => h) (Or.inr ⟨zr, rfl⟩) za ?_
     go_frame
     refine wpAnyH_take (i := 28) (oi := ⟨some 133, _, _, _, _, _⟩) (v := undef) rfl zk zk zk (fun _ _ _ h => h) (Or.inr ⟨zr, rfl⟩) za ?_
     go_frame
     refine wpAnyH_take (i := 29) (oi := ⟨some 134, _, _, _, _, _⟩) (v := undef) rfl zk zk zk (fun _ _ _ h => h) (Or.inr ⟨zr, rfl⟩) za ?_
     go_frame
     refine wpAnyH_take (i := 30) (oi := ⟨some 135, _, _, _, _, _⟩) (v := undef) rfl zk zk zk (fun _ _ _ h => h) (Or.inr ⟨zr, rfl⟩) za ?_
     go_frame
     refine wpAnyH_take (i := 31) (oi := ⟨some 136, _, _, _, _, _⟩) (v := undef) rfl zk zk zk (fun _ _ _ h => h) (Or.inr ⟨zr, rfl⟩) za ?_
     go_frame
     refine wpAnyH_take (i := 32) (oi := ⟨some 137, _, _, _, _, _⟩) (v := undef) rfl zk zk zk (fun _ _ _ h => h) (Or.inr ⟨zr, rfl⟩) za ?_
     go_frame
     refine wpAnyH_take (i := 33) (oi := ⟨some 138, _, _, _, _, _⟩) (v := undef) rfl zk zk zk (fun _ _ _ h => h) (Or.inr ⟨zr, rfl⟩) za ?_
     go_frame
     refine wpAnyH_take (i := 34) (oi := ⟨some 139, _, _, _, _, _⟩) (v := undef) rfl zk zk zk (fun _ _ _ h => h) (Or.inr ⟨zr, rfl⟩) za ?_
     go_frame
     refine wpAnyH_take (i := 35) (oi := ⟨some 140, _, _, _, _, _⟩) (v := undef) rfl zk zk zk (fun _ _ _ h => h) (Or.inr ⟨zr, rfl⟩) za ?_
     go_frame
     refine wpAnyH_take (i := 36) (oi := ⟨some 141, _, _, _, _, _⟩) (v := undef) rfl zk zk zk (fun _ _ _ h => h) (Or.inr ⟨zr, rfl⟩) za ?_
     go_frame
     refine wpAnyH_take (i := 37) (oi := ⟨some 142, _, _, _, _, _⟩) (v := undef) rfl zk zk zk (fun _ _ _ h => h) (Or.inr ⟨zr, rfl⟩) za ?_
     go_frame
     refine wpAnyH_take (i := 38) (oi := ⟨some 143, _, _, _, _, _⟩) (v := undef) rfl zk zk zk (fun _ _ _ h => h) (Or.inr ⟨zr, rfl⟩) za ?_
     go_frame
     refine wpAnyH_take (i := 39) (oi := ⟨some 144, _, _, _, _, _⟩) (v := undef) rfl zk zk zk (fun _ _ _ h => h) (Or.inr ⟨zr, rfl⟩) za ?_
     go_frame
     refine wpAnyH_take (i := 40) (oi := ⟨some 145, _, _, _, _, _⟩) (v := undef) rfl zk zk zk (fun _ _ _ h => h) (Or.inr ⟨zr, rfl⟩) za ?_
     go_frame
     refine wpAnyH_take (i := 41) (oi := ⟨some 146, _, _, _, _, _⟩) (v := ?_) rfl zk zk zk (fun _ _ _ h => h) (Or.inl ⟨zr, ?_⟩) za ?_
     rotate_left
     ·exact zqbkct
     go_frame
     refine wpAnyH_take (i := 42) (oi := ⟨some 147, _, _, _, _, _⟩) (v := ?_) rfl zk zk zk (fun _ _ _ h => h) (Or.inl ⟨zr, ?_⟩) za ?_
     rotate_left
     ·exact zqbkct
     go_frame
     refine wpAnyH_take (i := 43) (oi := ⟨some 148, _, _, _, _, _⟩) (v := ?_) rfl zk zk zk (fun _ _ _ h => h) (Or.inl ⟨zr, ?_⟩) za ?_
     rotate_left
     ·exact zqbkct
     go_frame
     refine wpAnyH_take (i := 44) (oi := ⟨some 149, _, _, _, _, _⟩) (v := ?_) rfl zk zk zk (fun _ _ _ h => h) (Or.inl ⟨zr, ?_⟩) za ?_
     rotate_left
     ·exact zqbkct
     go_frame
     refine wpAnyH_take (i := 45) (oi := ⟨some 150, _, _, _, _, _⟩) (v := ?_) rfl zk zk zk (fun _ _ _ h => h) (Or.inl ⟨zr, ?_⟩) za ?_
     rotate_left
     ·exact zqbkct
     go_frame
     refine wpAnyH_take (i := 46) (oi := ⟨some 151, _, _, _, _, _⟩) (v := ?_) rfl zk zk zk (fun _ _ _ h => h) (Or.inl ⟨zr, ?_⟩) za ?_
     rotate_left
     ·exact zqbkct
     go_frame
     refine wpAnyH_take (i := 47) (oi := ⟨some 152, _, _, _, _, _⟩) (v := ?_) rfl zk zk zk (fun _ _ _ h => h) (Or.inl ⟨zr, ?_⟩) za ?_
     rotate_left
     ·exact zqbkct
     go_frame
     refine wpAnyH_take (i := 48) (oi := ⟨some 153, _, _, _, _, _⟩) (v := undef) rfl zk zk zk (fun _ _ _ h => h) (Or.inr ⟨zr, rfl⟩) za ?_
     go_frame
     refine wpAnyH_take (i := 49) (oi := ⟨some 154, _, _, _, _, _⟩) (v := undef) rfl zk zk zk (fun _ _ _ h => h) (Or.inr ⟨zr, rfl⟩) za ?_
     go_frame
     refine wpAnyH_take (i := 50) (oi := ⟨some 155, _, _, _, _, _⟩) (v := undef) rfl zk zk zk (fun _ _ _ h => h) (Or.inr ⟨zr, rfl⟩) za ?_
     go_frame
     refine wpAnyH_take (i := 51) (oi := ⟨some 156, _, _, _, _, _⟩) (v := undef) rfl zk zk zk (fun _ _ _ h => h) (Or.inr ⟨zr, rfl⟩) za ?_
     go_frame
     refine wpAnyH_take (i := 52) (oi := ⟨some 157, _, _, _, _, _⟩) (v := ?_) rfl zk zk zk (fun _ _ _ h => h) (Or.inl ⟨zr, ?_⟩) za ?_
     rotate_left
     ·exact zqbkct
     go_frame
     refine wpAnyH_take (i := 53) (oi := ⟨some 158, _, _, _, _, _⟩) (v := ?_) rfl zk zk zk (fun _ _ _ h => h) (Or.inl ⟨zr, ?_⟩) za ?_
     rotate_left
     ·exact zqbkct
     go_frame
     refine wpAnyH_done zk ?_ _
     clear hHeld
     go_wp2
     go_roundw
     case rel => exact ⟨1, zo, by go_num, HBx.out⟩
     case measure => simp [intOf] <;> omega
    ·have tr : (t.ro != 0) = true := by simpa using hr
     replace I1 := zh (fun v g => I1.out v hr g)
     clear hr
     obtain ⟨i0, hi, hz0, hz1, hz2⟩ := info_parts zAo
     replace H := H.drew
     refine wp_region_held_drew (S := fun w' => w'.cell? ⟨w + 1, 0, none⟩ = some (.bool (c.o 0)) ∧ w'.cell? ⟨w + 1, 1, none⟩ = some (.bool (c.o 1)) ∧ w'.cell? ⟨w + 1, 2, none⟩ = some (.bool (c.o 2)) ∧ w'.cell? ⟨w + 1, 3, none⟩ = some (.bool (c.o 3)) ∧ w'.cell? ⟨w + 1, 4, none⟩ = some (.bool (c.o 4)) ∧ w'.cell? ⟨w + 1, 5, none⟩ = some (.bool (c.o 5)) ∧ w'.cell? ⟨w + 1, 6, none⟩ = some (.bool (c.o 6)) ∧ w'.cell? ⟨w + 1, 7, none⟩ = some (.slice aR c.nr cR) ∧ w'.cell? ⟨w + 1, 8, none⟩ = some (.slice aD c.nd cD) ∧ w'.cell? ⟨w4, 0, none⟩ = some (.slice (some ⟨g0, o0, none⟩) (x.q + 1 + 1) c0) ∧ w'.cell? ⟨g0, o0, none⟩ = some (.int .i64 dk) ∧ w'.cell? ⟨w, 10, none⟩ = some (.int .i64 t.ro)) zk (⟨H.c, H.c, H.c, H.c, H.c, H.c, H.c, H.c, H.c, H.c, H.c, H.c⟩) (fun hHeld => ?_)
     replace HBx := zh (HBx.out.drew)
     obtain ⟨WD, hWD⟩ : ∃ WD, World.drew (wr) = WD := ⟨_, rfl⟩
     rw [hWD] at H hHeld HBx ⊢
     clear hWD
     obtain ⟨b0, hb0⟩ : ∃ b0, WD.heap.size = b0 := ⟨_, rfl⟩
     have HB := Below.refl b0 WD
     have HWD := zh H
     have HS : Hid (∀ W, Below b0 WD W → b0 ≤ W.heap.size) := zh (fun W h => by have z := h.size; rw [hb0] at z; exact z)
     have HU : Hid (∀ W, Below b0 WD W → Below WD WD W) := zh (fun W h => by rw [hb0]; exact h)
     clear hb0
     refine wpAnyH_take (i := 0) (oi := ⟨some 94, _, _, _, _, _⟩) (v := ?_) rfl zk zk zk (fun _ _ _ h => h) (Or.inl ⟨zr, ?_⟩) za ?_
     rotate_left
     ·exact zqbkct
     go_frame
     refine wpAnyH_take (i := 1) (oi := ⟨some 95, _, _, _, _, _⟩) (v := ?_) rfl zk zk zk (fun _ _ _ h => h) (Or.inl ⟨zr, ?_⟩) za ?_
     rotate_left
     ·exact zqbkct
     go_frame
     refine wpAnyH_take (i := 2) (oi := ⟨some 96, _, _, _, _, _⟩) (v := ?_) rfl zk zk zk (fun _ _ _ h => h) (Or.inl ⟨zr, ?_⟩) za ?_
     rotate_left
     ·exact zqbkct
     go_frame
     refine wpAnyH_take (i := 3) (oi := ⟨some 97, _, _, _, _, _⟩) (v := ?_) rfl zk zk zk (fun _ _ _ h => h) (Or.inl ⟨zr, ?_⟩) za ?_
     rotate_left
     ·exact zqbkct
     go_frame
     refine wpAnyH_take (i := 4) (oi := ⟨some 98, _, _, _, _, _⟩) (v := .pointer (some ⟨g0, o0, none⟩)) rfl zk zk zk (fun _ _ _ h => h) (Or.inl ⟨zr, ?_⟩) za ?_
     ·exact zqbhse
     go_frame
     refine wpAnyH_take (i := 5) (oi := ⟨some 99, _, _, _, _, _⟩) (v := ?_) rfl zk zk zk (fun _ _ _ h => h) (Or.inl ⟨zr, ?_⟩) za ?_
     rotate_left
     ·exact zqbkct
     go_frame
     refine wpAnyH_take (i := 6) (oi := ⟨some 100, _, _, _, _, _⟩) (v := ?_) rfl zk zk zk (fun _ _ _ h => h) (Or.inl ⟨zr, ?_⟩) za ?_
     rotate_left
     ·exact zqbkct
     go_frame
     refine wpAnyH_take (i := 7) (oi := ⟨some 101, _, _, _, _, _⟩) (v := ?_) rfl zk zk zk (fun _ _ _ h => h) (Or.inl ⟨zr, ?_⟩) za ?_
     rotate_left
     ·exact zqbkct
     go_frame
     refine wpAnyH_ready (rs := [8]) zk zs ?_
     refine AllReadyH.cons (o := ⟨some 102, _, _, _, _, _⟩) rfl (fun K hK => ?_) AllReadyH.nil
     go_simp
     with_reducible refine (R1.out _ (H.cal (c := c) (aR := aR) (cR := cR) (aD := aD) (cD := cD))).mono ?_
     rintro e UA1 ⟨rfl, hb⟩
     replace H := H.below hb
     replace HB := HB.trans (hb.mono (HS.out _ HB))
     replace HBx := zh (HBx.out.trans (hb.mono (HZx.out _ HBx.out)))
     clear hb
     go_wp2_with fail
     refine hK.out _ _ (⟨H.c, H.c, H.c, H.c, H.c, H.c, H.c, H.c, H.c, H.c, H.c, H.c⟩) (fun hNew => ?_)
     clear hK K hHeld
     have hHeld := hNew
     clear hNew
     try go_frame
     refine wpAnyH_take (i := 9) (oi := ⟨some 93, _, _, _, _, _⟩) (v := ?_) rfl zk zk zk (fun _ _ _ h => h) (Or.inl ⟨zr, ?_⟩) za ?_
     rotate_left
     ·exact zqbkct
     go_frame
     refine wpAnyH_take (i := 10) (oi := ⟨some 103, _, _, _, _, _⟩) (v := ?_) rfl zk zk zk (fun _ _ _ h => h) (Or.inl ⟨zr, ?_⟩) za ?_
     rotate_left
     ·exact zqbkct
     go_frame
     refine wpAnyH_take (i := 11) (oi := ⟨some 104, _, _, _, _, _⟩) (v := ?_) rfl zk zk zk (fun _ _ _ h => h) (Or.inl ⟨zr, ?_⟩) za ?_
     rotate_left
     ·exact zqbkct
     go_frame
     refine wpAnyH_take (i := 12) (oi := ⟨some 10, _, _, _, _, _⟩) (v := ?_) rfl zk zk zk (fun _ _ _ h => h) (Or.inl ⟨zr, ?_⟩) za ?_
     rotate_left
     ·exact zqbkct
     go_frame
     refine wpAnyH_take (i := 13) (oi := ⟨some 11, _, _, _, _, _⟩) (v := ?_) rfl zk zk zk (fun _ _ _ h => h) (Or.inl ⟨zr, ?_⟩) za ?_
     rotate_left
     ·exact zqbkct
     go_frame
     refine wpAnyH_done zk ?_ _
     clear hHeld
     clear HB HWD HS HU
     go_upto_region 14 with fail
     obtain ⟨i0, hi, hz0, hz1, hz2⟩ := info_parts zAo
     replace H := H.drew
     refine wp_region_held_drew (S := fun w' => w'.cell? ⟨w + 1, 0, none⟩ = some (.bool (c.o 0)) ∧ w'.cell? ⟨w + 1, 1, none⟩ = some (.bool (c.o 1)) ∧ w'.cell? ⟨w + 1, 2, none⟩ = some (.bool (c.o 2)) ∧ w'.cell? ⟨w + 1, 3, none⟩ = some (.bool (c.o 3)) ∧ w'.cell? ⟨w + 1, 4, none⟩ = some (.bool (c.o 4)) ∧ w'.cell? ⟨w + 1, 5, none⟩ = some (.bool (c.o 5)) ∧ w'.cell? ⟨w + 1, 6, none⟩ = some (.bool (c.o 6)) ∧ w'.cell? ⟨w + 1, 7, none⟩ = some (.slice aR c.nr cR) ∧ w'.cell? ⟨w + 1, 8, none⟩ = some (.slice aD c.nd cD) ∧ w'.cell? ⟨w4, 0, none⟩ = some (.slice (some ⟨g0, o0, none⟩) (x.q + 1 + 1) c0) ∧ w'.cell? ⟨w4, 1, none⟩ = some (.slice (some ⟨g1, o1, none⟩) (x.q + 1 + 1) c1) ∧ w'.cell? ⟨g0, o0, none⟩ = some (.int .i64 dk) ∧ w'.cell? ⟨g1, o1, none⟩ = some (.int .i64 vk) ∧ w'.cell? ⟨w, 10, none⟩ = some (.int .i64 t.ro)) zk (⟨H.c, H.c, H.c, H.c, H.c, H.c, H.c, H.c, H.c, H.c, H.c, H.c, H.c, H.c⟩) (fun hHeld => ?_)
     replace HBx := zh (HBx.out.drew)
     obtain ⟨WD, hWD⟩ : ∃ WD, World.drew (UA1) = WD := ⟨_, rfl⟩
     rw [hWD] at H hHeld HBx ⊢
     clear hWD
     obtain ⟨b0, hb0⟩ : ∃ b0, WD.heap.size = b0 := ⟨_, rfl⟩
     have HB := Below.refl b0 WD
     have HWD := zh H
     have HS : Hid (∀ W, Below b0 WD W → b0 ≤ W.heap.size) := zh (fun W h => by have z := h.size; rw [hb0] at z; exact z)
     have HU : Hid (∀ W, Below b0 WD W → Below WD WD W) := zh (fun W h => by rw [hb0]; exact h)
     clear hb0
     refine wpAnyH_take (i := 0) (oi := ⟨some 105, _, _, _, _, _⟩) (v := ?_) rfl zk zk zk (fun _ _ _ h => h) (Or.inl ⟨zr, ?_⟩) za ?_
     rotate_left
     ·exact zqbkct
     go_frame
     refine wpAnyH_take (i := 1) (oi := ⟨some 106, _, _, _, _, _⟩) (v := ?_) rfl zk zk zk (fun _ _ _ h => h) (Or.inl ⟨zr, ?_⟩) za ?_
     rotate_left
     ·exact zqbkct
     go_frame
     refine wpAnyH_take (i := 2) (oi := ⟨some 107, _, _, _, _, _⟩) (v := ?_) rfl zk zk zk (fun _ _ _ h => h) (Or.inl ⟨zr, ?_⟩) za ?_
     rotate_left
     ·exact zqbkct
     go_frame
     refine wpAnyH_take (i := 3) (oi := ⟨some 108, _, _, _, _, _⟩) (v := ?_) rfl zk zk zk (fun _ _ _ h => h) (Or.inl ⟨zr, ?_⟩) za ?_
     rotate_left
     ·exact zqbkct
     go_frame
     refine wpAnyH_take (i := 4) (oi := ⟨some 109, _, _, _, _, _⟩) (v := ?_) rfl zk zk zk (fun _ _ _ h => h) (Or.inl ⟨zr, ?_⟩) za ?_
     rotate_left
     ·exact zqbkct
     go_frame
     refine wpAnyH_take (i := 5) (oi := ⟨some 110, _, _, _, _, _⟩) (v := ?_) rfl zk zk zk (fun _ _ _ h => h) (Or.inl ⟨zr, ?_⟩) za ?_
     rotate_left
     ·exact zqbkct
     go_frame
     refine wpAnyH_take (i := 6) (oi := ⟨some 111, _, _, _, _, _⟩) (v := .pointer (some ⟨g1, o1, none⟩)) rfl zk zk zk (fun _ _ _ h => h) (Or.inl ⟨zr, ?_⟩) za ?_
     ·exact zqbhse
     go_frame
     refine wpAnyH_take (i := 7) (oi := ⟨some 112, _, _, _, _, _⟩) (v := ?_) rfl zk zk zk (fun _ _ _ h => h) (Or.inl ⟨zr, ?_⟩) za ?_
     rotate_left
     ·exact zqbkct
     go_frame
     refine wpAnyH_take (i := 8) (oi := ⟨some 113, _, _, _, _, _⟩) (v := ?_) rfl zk zk zk (fun _ _ _ h => h) (Or.inl ⟨zr, ?_⟩) za ?_
     rotate_left
     ·exact zqbkct
     go_frame
     refine wpAnyH_take (i := 9) (oi := ⟨some 114, _, _, _, _, _⟩) (v := ?_) rfl zk zk zk (fun _ _ _ h => h) (Or.inl ⟨zr, ?_⟩) za ?_
     rotate_left
     ·exact zqbkct
     go_frame
     refine wpAnyH_take (i := 10) (oi := ⟨some 115, _, _, _, _, _⟩) (v := ?_) rfl zk zk zk (fun _ _ _ h => h) (Or.inl ⟨zr, ?_⟩) za ?_
     rotate_left
     ·exact zqbkct
     go_frame
     refine wpAnyH_take (i := 11) (oi := ⟨some 116, _, _, _, _, _⟩) (v := ?_) rfl zk zk zk (fun _ _ _ h => h) (Or.inl ⟨zr, ?_⟩) za ?_
     rotate_left
     ·exact zqbkct
     go_frame
     refine wpAnyH_take (i := 12) (oi := ⟨some 117, _, _, _, _, _⟩) (v := ?_) rfl zk zk zk (fun _ _ _ h => h) (Or.inl ⟨zr, ?_⟩) za ?_
     rotate_left
     ·exact zqbkct
     go_frame
     refine wpAnyH_take (i := 13) (oi := ⟨some 118, _, _, _, _, _⟩) (v := ?_) rfl zk zk zk (fun _ _ _ h => h) (Or.inl ⟨zr, ?_⟩) za ?_
     rotate_left
     ·exact zqbkct
     go_frame
     refine wpAnyH_take (i := 14) (oi := ⟨some 119, _, _, _, _, _⟩) (v := ?_) rfl zk zk zk (fun _ _ _ h => h) (Or.inl ⟨zr, ?_⟩) za ?_
     rotate_left
     ·exact zqbkct
     go_frame
     refine wpAnyH_take (i := 15) (oi := ⟨some 120, _, _, _, _, _⟩) (v := undef) rfl zk zk zk (fun _ _ _ h => h) (Or.inr ⟨zr, rfl⟩) za ?_
     go_frame
     refine wpAnyH_take (i := 16) (oi := ⟨some 121, _, _, _, _, _⟩) (v := undef) rfl zk zk zk (fun _ _ _ h => h) (Or.inr ⟨zr, rfl⟩) za ?_
     go_frame
     refine wpAnyH_take (i := 17) (oi := ⟨some 122, _, _, _, _, _⟩) (v := undef) rfl zk zk zk (fun _ _ _ h => h) (Or.inr ⟨zr, rfl⟩) za ?_
     go_frame
     refine wpAnyH_take (i := 18) (oi := ⟨some 123, _, _, _, _, _⟩) (v := undef) rfl zk zk zk (fun _ _ _ h => h) (Or.inr ⟨zr, rfl⟩) za ?_
     go_frame
     refine wpAnyH_take (i := 19) (oi := ⟨some 124, _, _, _, _, _⟩) (v := undef) rfl zk zk zk (fun _ _ _ h => h) (Or.inr ⟨zr, rfl⟩) za ?_
     go_frame
     refine wpAnyH_take (i := 20) (oi := ⟨some 125, _, _, _, _, _⟩) (v := undef) rfl zk zk zk (fun _ _ _ h => h) (Or.inr ⟨zr, rfl⟩) za ?_
     go_frame
     refine wpAnyH_take (i := 21) (oi := ⟨some 126, _, _, _, _, _⟩) (v := undef) rfl zk zk zk (fun _ _ _ h => h) (Or.inr ⟨zr, rfl⟩) za ?_
     go_frame
     refine wpAnyH_take (i := 22) (oi := ⟨some 127, _, _, _, _, _⟩) (v := undef) rfl zk zk zk (fun _ _ _ h => h) (Or.inr ⟨zr, rfl⟩) za ?_
     go_frame
     refine wpAnyH_take (i := 23) (oi := ⟨some 128, _, _, _, _, _⟩) (v := undef) rfl zk zk zk (fun _ _ _ h => h) (Or.inr ⟨zr, rfl⟩) za ?_
     go_frame
     refine wpAnyH_take (i := 24) (oi := ⟨some 129, _, _, _, _, _⟩) (v := undef) rfl zk zk zk (fun _ _ _ h => h) (Or.inr ⟨zr, rfl⟩) za ?_
     go_frame
     refine wpAnyH_take (i := 25) (oi := ⟨some 130, _, _, _, _, _⟩) (v := undef) rfl zk zk zk (fun _ _ _ h => h) (Or.inr ⟨zr, rfl⟩) za ?_
     go_frame
     refine wpAnyH_take (i := 26) (oi := ⟨some 131, _, _, _, _, _⟩) (v := undef) rfl zk zk zk (fun _ _ _ h => h) (Or.inr ⟨zr, rfl⟩) za ?_
     go_frame
     refine wpAnyH_take (i := 27) (oi := ⟨some 132, _, _, _, _, _⟩) (v := undef) rfl zk zk zk (fun _ _ _ h => h) (Or.inr ⟨zr, rfl⟩) za ?_
     go_frame
     refine wpAnyH_take (i := 28) (oi := ⟨some 133, _, _, _, _, _⟩) (v := undef) rfl zk zk zk (fun _ _ _ h => h) (Or.inr ⟨zr, rfl⟩) za ?_
     go_frame
     refine wpAnyH_take (i := 29) (oi := ⟨some 134, _, _, _, _, _⟩) (v := undef) rfl zk zk zk (fun _ _ _ h => h) (Or.inr ⟨zr, rfl⟩) za ?_
     go_frame
     refine wpAnyH_take (i := 30) (oi := ⟨some 135, _, _, _, _, _⟩) (v := undef) rfl zk zk zk (fun _ _ _ h => h) (Or.inr ⟨zr, rfl⟩) za ?_
     go_frame
     refine wpAnyH_take (i := 31) (oi := ⟨some 136, _, _, _, _, _⟩) (v := undef) rfl zk zk zk (fun _ _ _ h => h) (Or.inr ⟨zr, rfl⟩) za ?_
     go_frame
     refine wpAnyH_take (i := 32) (oi := ⟨some 137, _, _, _, _, _⟩) (v := undef) rfl zk zk zk (fun _ _ _ h => h) (Or.inr ⟨zr, rfl⟩) za ?_
     go_frame
     refine wpAnyH_take (i := 33) (oi := ⟨some 138, _, _, _, _, _⟩) (v := undef) rfl zk zk zk (fun _ _ _ h => h) (Or.inr ⟨zr, rfl⟩) za ?_
     go_frame
     refine wpAnyH_take (i := 34) (oi := ⟨some 139, _, _, _, _, _⟩) (v := undef) rfl zk zk zk (fun _ _ _ h => h) (Or.inr ⟨zr, rfl⟩) za ?_
     go_frame
     refine wpAnyH_take (i := 35) (oi := ⟨some 140, _, _, _, _, _⟩) (v := undef) rfl zk zk zk (fun _ _ _ h => h) (Or.inr ⟨zr, rfl⟩) za ?_
     go_frame
     refine wpAnyH_take (i := 36) (oi := ⟨some 141, _, _, _, _, _⟩) (v := undef) rfl zk zk zk (fun _ _ _ h => h) (Or.inr ⟨zr, rfl⟩) za ?_
     go_frame
     refine wpAnyH_take (i := 37) (oi := ⟨some 142, _, _, _, _, _⟩) (v := undef) rfl zk zk zk (fun _ _ _ h => h) (Or.inr ⟨zr, rfl⟩) za ?_
     go_frame
     refine wpAnyH_take (i := 38) (oi := ⟨some 143, _, _, _, _, _⟩) (v := undef) rfl zk zk zk (fun _ _ _ h => h) (Or.inr ⟨zr, rfl⟩) za ?_
     go_frame
     refine wpAnyH_take (i := 39) (oi := ⟨some 144, _, _, _, _, _⟩) (v := undef) rfl zk zk zk (fun _ _ _ h => h) (Or.inr ⟨zr, rfl⟩) za ?_
     go_frame
     refine wpAnyH_take (i := 40) (oi := ⟨some 145, _, _, _, _, _⟩) (v := undef) rfl zk zk zk (fun _ _ _ h => h) (Or.inr ⟨zr, rfl⟩) za ?_
     go_frame
     refine wpAnyH_take (i := 41) (oi := ⟨some 146, _, _, _, _, _⟩) (v := ?_) rfl zk zk zk (fun _ _ _ h => h) (Or.inl ⟨zr, ?_⟩) za ?_
     rotate_left
     ·exact zqbkct
     go_frame
     refine wpAnyH_take (i := 42) (oi := ⟨some 147, _, _, _, _, _⟩) (v := ?_) rfl zk zk zk (fun _ _ _ h => h) (Or.inl ⟨zr, ?_⟩) za ?_
     rotate_left
     ·exact zqbkct
     go_frame
     refine wpAnyH_take (i := 43) (oi := ⟨some 148, _, _, _, _, _⟩) (v := ?_) rfl zk zk zk (fun _ _ _ h => h) (Or.inl ⟨zr, ?_⟩) za ?_
     rotate_left
     ·exact zqbkct
     go_frame
     refine wpAnyH_take (i := 44) (oi := ⟨some 149, _, _, _, _, _⟩) (v := ?_) rfl zk zk zk (fun _ _ _ h => h) (Or.inl ⟨zr, ?_⟩) za ?_
     rotate_left
     ·exact zqbkct
     go_frame
     refine wpAnyH_take (i := 45) (oi := ⟨some 150, _, _, _, _, _⟩) (v := ?_) rfl zk zk zk (fun _ _ _ h => h) (Or.inl ⟨zr, ?_⟩) za ?_
     rotate_left
     ·exact zqbkct
     go_frame
     refine wpAnyH_take (i := 46) (oi := ⟨some 151, _, _, _, _, _⟩) (v := ?_) rfl zk zk zk (fun _ _ _ h => h) (Or.inl ⟨zr, ?_⟩) za ?_
     rotate_left
     ·exact zqbkct
     go_frame
     refine wpAnyH_take (i := 47) (oi := ⟨some 152, _, _, _, _, _⟩) (v := ?_) rfl zk zk zk (fun _ _ _ h => h) (Or.inl ⟨zr, ?_⟩) za ?_
     rotate_left
     ·exact zqbkct
     go_frame
     refine wpAnyH_take (i := 48) (oi := ⟨some 153, _, _, _, _, _⟩) (v := ?_) rfl zk zk zk (fun _ _ _ h => h) (Or.inl ⟨zr, ?_⟩) za ?_
     rotate_left
     ·exact zqbkct
     go_frame
     refine wpAnyH_take (i := 49) (oi := ⟨some 154, _, _, _, _, _⟩) (v := ?_) rfl zk zk zk (fun _ _ _ h => h) (Or.inl ⟨zr, ?_⟩) za ?_
     rotate_left
     ·exact zqbkct
     go_frame
     refine wpAnyH_ready (rs := [50]) zk zs ?_
     refine AllReadyH.cons (o := ⟨some 155, _, _, _, _, _⟩) rfl (fun K hK => ?_) AllReadyH.nil
     go_simp
     with_reducible refine (I1.out _ (H.cal (c := c) (aR := aR) (cR := cR) (aD := aD) (cD := cD))).mono ?_
     rintro e UB1 ⟨rfl, hb⟩
     replace H := H.below hb
     replace HB := HB.trans (hb.mono (HS.out _ HB))
     replace HBx := zh (HBx.out.trans (hb.mono (HZx.out _ HBx.out)))
     clear hb
     go_wp2_with fail
     refine hK.out _ _ (⟨H.c, H.c, H.c, H.c, H.c, H.c, H.c, H.c, H.c, H.c, H.c, H.c, H.c, H.c⟩) (fun hNew => ?_)
     clear hK K hHeld
     have hHeld := hNew
     clear hNew
     try go_frame
     refine wpAnyH_take (i := 51) (oi := ⟨some 156, _, _, _, _, _⟩) (v := ?_) rfl zk zk zk (fun _ _ _ h => h) (Or.inl ⟨zr, ?_⟩) za ?_
     rotate_left
     ·exact zqbkct
     go_frame
     refine wpAnyH_take (i := 52) (oi := ⟨some 157, _, _, _, _, _⟩) (v := ?_) rfl zk zk zk (fun _ _ _ h => h) (Or.inl ⟨zr, ?_⟩) za ?_
     rotate_left
     ·exact zqbkct
     go_frame
     refine wpAnyH_take (i := 53) (oi := ⟨some 158, _, _, _, _, _⟩) (v := ?_) rfl zk zk zk (fun _ _ _ h => h) (Or.inl ⟨zr, ?_⟩) za ?_
     rotate_left
     ·exact zqbkct
     go_frame
     refine wpAnyH_done zk ?_ _
     clear hHeld
     go_wp2
     go_roundw
     case rel => exact ⟨1, zo, by go_num, HBx.out⟩
     case measure => simp [intOf] <;> omega
   | p + 1, hk, hlt =>
    obtain ⟨dk, hdk⟩ : ∃ z, (t.dd x.X x.q) (p + 1) = z := ⟨_, rfl⟩
    obtain ⟨vk, hvk⟩ : ∃ z, x.V (p + 1) = z := ⟨_, rfl⟩
    have R1 := zh (fun v g => RT.out (p + 1) v zo g)
    have I1 := zh (fun v hr g => IS.out (p + 1) v zo hr g)
    have ka := hcA (p + 1) zo
    have kb := hcB (p + 1) zo
    rw [hdk, hvk] at R1
    rw [hvk] at I1
    rw [hdk] at ka
    rw [hvk] at kb
    obtain ⟨dp, hdp⟩ : ∃ z, (t.dd x.X x.q) p = z := ⟨_, rfl⟩
    obtain ⟨vp, hvp⟩ : ∃ z, x.V p = z := ⟨_, rfl⟩
    have ja := hcA p zo
    have jb := hcB p zo
    rw [hdp] at ja
    rw [hvp] at jb
    obtain ⟨u1, u2⟩ := UP.out p zo
    rw [hvp, hvk] at u1
    rw [hdp, hdk] at u2
    have t131 : decide (vk < vp) = false := decide_eq_false zo
    have t144 : decide (dk ≤ dp) = false := decide_eq_false zo
    have twp : IntKind.i64.wrap ((p : Nat) : Int) = (p : Int) := IntWalk.i64_in _ zo
    have tpos : decide ((0 : Int) < (p : Int) + 1) = true := decide_eq_true zo
    replace H := (H.add (f := .cell g0 (o0 + p) dp) ja).add (f := .cell g1 (o1 + p) vp) jb
    clear ja jb u1 u2 hdp hvp
    replace H := (H.add (f := .cell g0 (o0 + (p + 1)) dk) ka).add (f := .cell g1 (o1 + (p + 1)) vk) kb
    have HLT := zh hlt
    clear ka kb hcA hcB hdk hvk
    go_upto_region 13 with fail
    by_cases hr : t.ro = 0
    ·have tr : (t.ro != 0) = false := by simpa using hr
     clear hr I1
     obtain ⟨i0, hi, hz0, hz1, hz2⟩ := info_parts zAo
     replace H := H.drew
     refine wp_region_held_drew (S := fun w' => w'.cell? ⟨w + 1, 0, none⟩ = some (.bool (c.o 0)) ∧ w'.cell? ⟨w + 1, 1, none⟩ = some (.bool (c.o 1)) ∧ w'.cell? ⟨w + 1, 2, none⟩ = some (.bool (c.o 2)) ∧ w'.cell? ⟨w + 1, 3, none⟩ = some (.bool (c.o 3)) ∧ w'.cell? ⟨w + 1, 4, none⟩ = some (.bool (c.o 4)) ∧ w'.cell? ⟨w + 1, 5, none⟩ = some (.bool (c.o 5)) ∧ w'.cell? ⟨w + 1, 6, none⟩ = some (.bool (c.o 6)) ∧ w'.cell? ⟨w + 1, 7, none⟩ = some (.slice aR c.nr cR) ∧ w'.cell? ⟨w + 1, 8, none⟩ = some (.slice aD c.nd cD) ∧ w'.cell? ⟨w4, 0, none⟩ = some (.slice (some ⟨g0, o0, none⟩) (x.q + 1 + 1) c0) ∧ w'.cell? ⟨g0, o0 + (p + 1), none⟩ = some (.int .i64 dk) ∧ w'.cell? ⟨w, 10, none⟩ = some (.int .i64 t.ro)) zk (⟨H.c, H.c, H.c, H.c, H.c, H.c, H.c, H.c, H.c, H.c, H.c, H.c⟩) (fun hHeld => ?_)
     replace HBx := zh (HBx.out.drew)
     obtain ⟨WD, hWD⟩ : ∃ WD, World.drew (wr) = WD := ⟨_, rfl⟩
     rw [hWD] at H hHeld HBx ⊢
     clear hWD
     obtain ⟨b0, hb0⟩ : ∃ b0, WD.heap.size = b0 := ⟨_, rfl⟩
     have HB := Below.refl b0 WD
     have HWD := zh H
     have HS : Hid (∀ W, Below b0 WD W → b0 ≤ W.heap.size) := zh (fun W h => by have z := h.size; rw [hb0] at z; exact z)
     have HU : Hid (∀ W, Below b0 WD W → Below WD WD W) := zh (fun W h => by rw [hb0]; exact h)
     clear hb0
     refine wpAnyH_take (i := 0) (oi := ⟨some 94, _, _, _, _, _⟩) (v := ?_) rfl zk zk zk (fun _ _ _ h => h) (Or.inl ⟨zr, ?_⟩) za ?_
     rotate_left
     ·exact zqbkct
     go_frame
     refine wpAnyH_take (i := 1) (oi := ⟨some 95, _, _, _, _, _⟩) (v := ?_) rfl zk zk zk (fun _ _ _ h => h) (Or.inl ⟨zr, ?_⟩) za ?_
     rotate_left
     ·exact zqbkct
     go_frame
     refine wpAnyH_take (i := 2) (oi := ⟨some 96, _, _, _, _, _⟩) (v := ?_) rfl zk zk zk (fun _ _ _ h => h) (Or.inl ⟨zr, ?_⟩) za ?_
     rotate_left
     ·exact zqbkct
     go_frame
     refine wpAnyH_take (i := 3) (oi := ⟨some 97, _, _, _, _, _⟩) (v := ?_) rfl zk zk zk (fun _ _ _ h => h) (Or.inl ⟨zr, ?_⟩) za ?_
     rotate_left
     ·exact zqbkct
     go_frame
     refine wpAnyH_take (i := 4) (oi := ⟨some 98, _, _, _, _, _⟩) (v := .pointer (some ⟨g0, o0 + (p + 1), none⟩)) rfl zk zk zk (fun _ _ _ h => h) (Or.inl ⟨zr, ?_⟩) za ?_
     ·exact zqbhse
     go_frame
     refine wpAnyH_take (i := 5) (oi := ⟨some 99, _, _, _, _, _⟩) (v := ?_) rfl zk zk zk (fun _ _ _ h => h) (Or.inl ⟨zr, ?_⟩) za ?_
     rotate_left
     ·exact zqbkct
     go_frame
     refine wpAnyH_take (i := 6) (oi := ⟨some 100, _, _, _, _, _⟩) (v := ?_) rfl zk zk zk (fun _ _ _ h => h) (Or.inl ⟨zr, ?_⟩) za ?_
     rotate_left
     ·exact zqbkct
     go_frame
     refine wpAnyH_take (i := 7) (oi := ⟨some 101, _, _, _, _, _⟩) (v := ?_) rfl zk zk zk (fun _ _ _ h => h) (Or.inl ⟨zr, ?_⟩) za ?_
     rotate_left
     ·exact zqbkct
     go_frame
     refine wpAnyH_ready (rs := [8]) zk zs ?_
     refine AllReadyH.cons (o := ⟨some 102, _, _, _, _, _⟩) rfl (fun K hK => ?_) AllReadyH.nil
     go_simp
     with_reducible refine (R1.out _ (H.cal (c := c) (aR := aR) (cR := cR) (aD := aD) (cD := cD))).mono ?_
     rintro e UA1 ⟨rfl, hb⟩
     replace H := H.below hb
     replace HB := HB.trans (hb.mono (HS.out _ HB))
     replace HBx := zh (HBx.out.trans (hb.mono (HZx.out _ HBx.out)))
     clear hb
     go_wp2_with fail
     refine hK.out _ _ (⟨H.c, H.c, H.c, H.c, H.c, H.c, H.c, H.c, H.c, H.c, H.c, H.c⟩) (fun hNew => ?_)
     clear hK K hHeld
     have hHeld := hNew
     clear hNew
     try go_frame
     refine wpAnyH_take (i := 9) (oi := ⟨some 93, _, _, _, _, _⟩) (v := ?_) rfl zk zk zk (fun _ _ _ h => h) (Or.inl ⟨zr, ?_⟩) za ?_
     rotate_left
     ·exact zqbkct
     go_frame
     refine wpAnyH_take (i := 10) (oi := ⟨some 103, _, _, _, _, _⟩) (v := ?_) rfl zk zk zk (fun _ _ _ h => h) (Or.inl ⟨zr, ?_⟩) za ?_
     rotate_left
     ·exact zqbkct
     go_frame
     refine wpAnyH_take (i := 11) (oi := ⟨some 104, _, _, _, _, _⟩) (v := ?_) rfl zk zk zk (fun _ _ _ h => h) (Or.inl ⟨zr, ?_⟩) za ?_
     rotate_left
     ·exact zqbkct
     go_frame
     refine wpAnyH_take (i := 12) (oi := ⟨some 10, _, _, _, _, _⟩) (v := ?_) rfl zk zk zk (fun _ _ _ h => h) (Or.inl ⟨zr, ?_⟩) za ?_
     rotate_left
     ·exact zqbkct
     go_frame
     refine wpAnyH_take (i := 13) (oi := ⟨some 11, _, _, _, _, _⟩) (v := ?_) rfl zk zk zk (fun _ _ _ h => h) (Or.inl ⟨zr, ?_⟩) za ?_
     rotate_left
     ·exact zqbkct
     go_frame
     refine wpAnyH_done zk ?_ _
     clear hHeld
     clear HB HWD HS HU
     go_upto_region 14 with fail
     obtain ⟨i0, hi, hz0, hz1, hz2⟩ := info_parts zAo
     replace H := H.drew
     refine wp_region_held_drew (S := fun w' => w'.cell? ⟨w + 1, 0, none⟩ = some (.bool (c.o 0)) ∧ w'.cell? ⟨w + 1, 1, none⟩ = some (.bool (c.o 1)) ∧ w'.cell? ⟨w + 1, 2, none⟩ = some (.bool (c.o 2)) ∧ w'.cell? ⟨w + 1, 3, none⟩ = some (.bool (c.o 3)) ∧ w'.cell? ⟨w + 1, 4, none⟩ = some (.bool (c.o 4)) ∧ w'.cell? ⟨w + 1, 5, none⟩ = some (.bool (c.o 5)) ∧ w'.cell? ⟨w + 1, 6, none⟩ = some (.bool (c.o 6)) ∧ w'.cell? ⟨w + 1, 7, none⟩ = some (.slice aR c.nr cR) ∧ w'.cell? ⟨w + 1, 8, none⟩ = some (.slice aD c.nd cD) ∧ w'.cell? ⟨w4, 0, none⟩ = some (.slice (some ⟨g0, o0, none⟩) (x.q + 1 + 1) c0) ∧ w'.cell? ⟨w4, 1, none⟩ = some (.slice (some ⟨g1, o1, none⟩) (x.q + 1 + 1) c1) ∧ w'.cell? ⟨g0, o0 + (p + 1), none⟩ = some (.int .i64 dk) ∧ w'.cell? ⟨g1, o1 + (p + 1), none⟩ = some (.int .i64 vk) ∧ w'.cell? ⟨w, 10, none⟩ = some (.int .i64 t.ro) ∧ w'.cell? ⟨g0, o0 + p, none⟩ = some (.int .i64 dp) ∧ w'.cell? ⟨g1, o1 + p, none⟩ = some (.int .i64 vp)) zk (⟨H.c, H.c, H.c, H.c, H.c, H.c, H.c, H.c, H.c, H.c, H.c, H.c, H.c, H.c, H.c, H.c⟩) (fun hHeld => ?_)
     replace HBx := zh (HBx.out.drew)
     obtain ⟨WD, hWD⟩ : ∃ WD, World.drew (UA1) = WD := ⟨_, rfl⟩
     rw [hWD] at H hHeld HBx ⊢
     clear hWD
     obtain ⟨b0, hb0⟩ : ∃ b0, WD.heap.size = b0 := ⟨_, rfl⟩
     have HB := Below.refl b0 WD
     have HWD := zh H
     have HS : Hid (∀ W, Below b0 WD W → b0 ≤ W.heap.size) := zh (fun W h => by have z := h.size; rw [hb0] at z; exact z)
     have HU : Hid (∀ W, Below b0 WD W → Below WD WD W) := zh (fun W h => by rw [hb0]; exact h)
     clear hb0
     refine wpAnyH_take (i := 0) (oi := ⟨some 105, _, _, _, _, _⟩) (v := ?_) rfl zk zk zk (fun _ _ _ h => h) (Or.inl ⟨zr, ?_⟩) za ?_
     rotate_left
     ·exact zqbkct
     go_frame
     refine wpAnyH_take (i := 1) (oi := ⟨some 106, _, _, _, _, _⟩) (v := ?_) rfl zk zk zk (fun _ _ _ h => h) (Or.inl ⟨zr, ?_⟩) za ?_
     rotate_left
     ·exact zqbkct
     go_frame
     refine wpAnyH_take (i := 2) (oi := ⟨some 107, _, _, _, _, _⟩) (v := ?_) rfl zk zk zk (fun _ _ _ h => h) (Or.inl ⟨zr, ?_⟩) za ?_
     rotate_left
     ·exact zqbkct
     go_frame
     refine wpAnyH_take (i := 3) (oi := ⟨some 108, _, _, _, _, _⟩) (v := ?_) rfl zk zk zk (fun _ _ _ h => h) (Or.inl ⟨zr, ?_⟩) za ?_
     rotate_left
     ·exact zqbkct
     go_frame
     refine wpAnyH_take (i := 4) (oi := ⟨some 109, _, _, _, _, _⟩) (v := ?_) rfl zk zk zk (fun _ _ _ h => h) (Or.inl ⟨zr, ?_⟩) za ?_
     rotate_left
     ·exact zqbkct
     go_frame
     refine wpAnyH_take (i := 5) (oi := ⟨some 110, _, _, _, _, _⟩) (v := ?_) rfl zk zk zk (fun _ _ _ h => h) (Or.inl ⟨zr, ?_⟩) za ?_
     rotate_left
     ·exact zqbkct
     go_frame
     refine wpAnyH_take (i := 6) (oi := ⟨some 111, _, _, _, _, _⟩) (v := .pointer (some ⟨g1, o1 + (p + 1), none⟩)) rfl zk zk zk (fun _ _ _ h => h) (Or.inl ⟨zr, ?_⟩) za ?_
     ·exact zqbhse
     go_frame
     refine wpAnyH_take (i := 7) (oi := ⟨some 112, _, _, _, _, _⟩) (v := ?_) rfl zk zk zk (fun _ _ _ h => h) (Or.inl ⟨zr, ?_⟩) za ?_
     rotate_left
     ·exact zqbkct
     go_frame
     refine wpAnyH_take (i := 8) (oi := ⟨some 113, _, _, _, _, _⟩) (v := ?_) rfl zk zk zk (fun _ _ _ h => h) (Or.inl ⟨zr, ?_⟩) za ?_
     rotate_left
     ·exact zqbkct
     go_frame
     refine wpAnyH_take (i := 9) (oi := ⟨some 114, _, _, _, _, _⟩) (v := ?_) rfl zk zk zk (fun _ _ _ h => h) (Or.inl ⟨zr, ?_⟩) za ?_
     rotate_left
     ·exact zqbkct
     go_frame
     refine wpAnyH_take (i := 10) (oi := ⟨some 115, _, _, _, _, _⟩) (v := ?_) rfl zk zk zk (fun _ _ _ h => h) (Or.inl ⟨zr, ?_⟩) za ?_
     rotate_left
     ·exact zqbkct
     go_frame
     refine wpAnyH_take (i := 11) (oi := ⟨some 116, _, _, _, _, _⟩) (v := ?_) rfl zk zk zk (fun _ _ _ h => h) (Or.inl ⟨zr, ?_⟩) za ?_
     rotate_left
     ·exact zqbkct
     go_frame
     refine wpAnyH_take (i := 12) (oi := ⟨some 117, _, _, _, _, _⟩) (v := ?_) rfl zk zk zk (fun _ _ _ h => h) (Or.inl ⟨zr, ?_⟩) za ?_
     rotate_left
     ·exact zqbkct
     go_frame
     refine wpAnyH_take (i := 13) (oi := ⟨some 118, _, _, _, _, _⟩) (v := ?_) rfl zk zk zk (fun _ _ _ h => h) (Or.inl ⟨zr, ?_⟩) za ?_
     rotate_left
     ·exact zqbkct
     go_frame
     refine wpAnyH_take (i := 14) (oi := ⟨some 119, _, _, _, _, _⟩) (v := ?_) rfl zk zk zk (fun _ _ _ h => h) (Or.inl ⟨zr, ?_⟩) za ?_
     rotate_left
     ·exact zqbkct
     go_frame
     refine wpAnyH_take (i := 15) (oi := ⟨some 120, _, _, _, _, _⟩) (v := ?_) rfl zk zk zk (fun _ _ _ h => h) (Or.inl ⟨zr, ?_⟩) za ?_
     rotate_left
     ·exact zqbkct
     go_frame
     refine wpAnyH_take (i := 16) (oi := ⟨some 121, _, _, _, _, _⟩) (v := ?_) rfl zk zk zk (fun _ _ _ h => h) (Or.inl ⟨zr, ?_⟩) za ?_
     rotate_left
     ·exact zqbkct
     go_frame
     refine wpAnyH_take (i := 17) (oi := ⟨some 122, _, _, _, _, _⟩) (v := ?_) rfl zk zk zk (fun _ _ _ h => h) (Or.inl ⟨zr, ?_⟩) za ?_
     rotate_left
     ·exact zqbkct
     go_frame
     refine wpAnyH_take (i := 18) (oi := ⟨some 123, _, _, _, _, _⟩) (v := .pointer (some ⟨g1, o1 + (p + 1), none⟩)) rfl zk zk zk (fun _ _ _ h => h) (Or.inl ⟨zr, ?_⟩) za ?_
     ·exact zqbhse
     go_frame
     refine wpAnyH_take (i := 19) (oi := ⟨some 124, _, _, _, _, _⟩) (v := ?_) rfl zk zk zk (fun _ _ _ h => h) (Or.inl ⟨zr, ?_⟩) za ?_
     rotate_left
     ·exact zqbkct
     go_frame
     refine wpAnyH_take (i := 20) (oi := ⟨some 125, _, _, _, _, _⟩) (v := ?_) rfl zk zk zk (fun _ _ _ h => h) (Or.inl ⟨zr, ?_⟩) za ?_
     rotate_left
     ·exact zqbkct
     go_frame
     refine wpAnyH_take (i := 21) (oi := ⟨some 126, _, _, _, _, _⟩) (v := ?_) rfl zk zk zk (fun _ _ _ h => h) (Or.inl ⟨zr, ?_⟩) za ?_
     rotate_left
     ·exact zqbkct
     go_frame
     refine wpAnyH_take (i := 22) (oi := ⟨some 127, _, _, _, _, _⟩) (v := ?_) rfl zk zk zk (fun _ _ _ h => h) (Or.inl ⟨zr, ?_⟩) za ?_
     rotate_left
     ·exact zqbkct
     go_frame
     refine wpAnyH_take (i := 23) (oi := ⟨some 128, _, _, _, _, _⟩) (v := ?_) rfl zk zk zk (fun _ _ _ h => h) (Or.inl ⟨zr, ?_⟩) za ?_
     rotate_left
     ·exact zqbkct
     go_frame
     refine wpAnyH_take (i := 24) (oi := ⟨some 129, _, _, _, _, _⟩) (v := .pointer (some ⟨g1, o1 + p, none⟩)) rfl zk zk zk (fun _ _ _ h => h) (Or.inl ⟨zr, ?_⟩) za ?_
     ·exact zqbhse
     go_frame
     refine wpAnyH_take (i := 25) (oi := ⟨some 130, _, _, _, _, _⟩) (v := ?_) rfl zk zk zk (fun _ _ _ h => h) (Or.inl ⟨zr, ?_⟩) za ?_
     rotate_left
     ·exact zqbkct
     go_frame
     refine wpAnyH_take (i := 26) (oi := ⟨some 131, _, _, _, _, _⟩) (v := ?_) rfl zk zk zk (fun _ _ _ h => h) (Or.inl ⟨zr, ?_⟩) za ?_
     rotate_left
     ·exact zqbkct
     go_frame
     refine wpAnyH_take (i := 27) (oi := ⟨some 132, _, _, _, _, _⟩) (v := ?_) rfl zk zk zk (fun _ _ _ h => h) (Or.inl ⟨zr, ?_⟩) za ?_
     rotate_left
     ·exact zqbkct
     go_frame
     refine wpAnyH_take (i := 28) (oi := ⟨some 133, _, _, _, _, _⟩) (v := ?_) rfl zk zk zk (fun _ _ _ h => h) (Or.inl ⟨zr, ?_⟩) za ?_
     rotate_left
     ·exact zqbkct
     go_frame
     refine wpAnyH_take (i := 29) (oi := ⟨some 134, _, _, _, _, _⟩) (v := ?_) rfl zk zk zk (fun _ _ _ h => h) (Or.inl ⟨zr, ?_⟩) za ?_
     rotate_left
     ·exact zqbkct
     go_frame
     refine wpAnyH_take (i := 30) (oi := ⟨some 135, _, _, _, _, _⟩) (v := ?_) rfl zk zk zk (fun _ _ _ h => h) (Or.inl ⟨zr, ?_⟩) za ?_
     rotate_left
     ·exact zqbkct
     go_frame
     refine wpAnyH_take (i := 31) (oi := ⟨some 136, _, _, _, _, _⟩) (v := .pointer (some ⟨g0, o0 + (p + 1), none⟩)) rfl zk zk zk (fun _ _ _ h => h) (Or.inl ⟨zr, ?_⟩) za ?_
     ·exact zqbhse
     go_frame
     refine wpAnyH_take (i := 32) (oi := ⟨some 137, _, _, _, _, _⟩) (v := ?_) rfl zk zk zk (fun _ _ _ h => h) (Or.inl ⟨zr, ?_⟩) za ?_
     rotate_left
     ·exact zqbkct
     go_frame
     refine wpAnyH_take (i := 33) (oi := ⟨some 138, _, _, _, _, _⟩) (v := ?_) rfl zk zk zk (fun _ _ _ h => h) (Or.inl ⟨zr, ?_⟩) za ?_
     rotate_left
     ·exact zqbkct
     go_frame
     refine wpAnyH_take (i := 34) (oi := ⟨some 139, _, _, _, _, _⟩) (v := ?_) rfl zk zk zk (fun _ _ _ h => h) (Or.inl ⟨zr, ?_⟩) za ?_
     rotate_left
     ·exact zqbkct
     go_frame
     refine wpAnyH_take (i := 35) (oi := ⟨some 140, _, _, _, _, _⟩) (v := ?_) rfl zk zk zk (fun _ _ _ h => h) (Or.inl ⟨zr, ?_⟩) za ?_
     rotate_left
     ·exact zqbkct
     go_frame
     refine wpAnyH_take (i := 36) (oi := ⟨some 141, _, _, _, _, _⟩) (v := ?_) rfl zk zk zk (fun _ _ _ h => h) (Or.inl ⟨zr, ?_⟩) za ?_
     rotate_left
     ·exact zqbkct
     go_frame
     refine wpAnyH_take (i := 37) (oi := ⟨some 142, _, _, _, _, _⟩) (v := .pointer (some ⟨g0, o0 + p, none⟩)) rfl zk zk zk (fun _ _ _ h => h) (Or.inl ⟨zr, ?_⟩) za ?_
     ·exact zqbhse
     go_frame
     refine wpAnyH_take (i := 38) (oi := ⟨some 143, _, _, _, _, _⟩) (v := ?_) rfl zk zk zk (fun _ _ _ h => h) (Or.inl ⟨zr, ?_⟩) za ?_
     rotate_left
     ·exact zqbkct
     go_frame
     refine wpAnyH_take (i := 39) (oi := ⟨some 144, _, _, _, _, _⟩) (v := ?_) rfl zk zk zk (fun _ _ _ h => h) (Or.inl ⟨zr, ?_⟩) za ?_
     rotate_left
     ·exact zqbkct
     go_frame
     refine wpAnyH_take (i := 40) (oi := ⟨some 145, _, _, _, _, _⟩) (v := ?_) rfl zk zk zk (fun _ _ _ h => h) (Or.inl ⟨zr, ?_⟩) za ?_
     rotate_left
     ·exact zqbkct
     go_frame
     refine wpAnyH_take (i := 41) (oi := ⟨some 146, _, _, _, _, _⟩) (v := ?_) rfl zk zk zk (fun _ _ _ h => h) (Or.inl ⟨zr, ?_⟩) za ?_
     rotate_left
     ·exact zqbkct
     go_frame
     refine wpAnyH_take (i := 42) (oi := ⟨some 147, _, _, _, _, _⟩) (v := ?_) rfl zk zk zk (fun _ _ _ h => h) (Or.inl ⟨zr, ?_⟩) za ?_
     rotate_left
     ·exact zqbkct
     go_frame
     refine wpAnyH_take (i := 43) (oi := ⟨some 148, _, _, _, _, _⟩) (v := ?_) rfl zk zk zk (fun _ _ _ h => h) (Or.inl ⟨zr, ?_⟩) za ?_
     rotate_left
     ·exact zqbkct
     go_frame
     refine wpAnyH_take (i := 44) (oi := ⟨some 149, _, _, _, _, _⟩) (v := ?_) rfl zk zk zk (fun _ _ _ h => h) (Or.inl ⟨zr, ?_⟩) za ?_
     rotate_left
     ·exact zqbkct
     go_frame
     refine wpAnyH_take (i := 45) (oi := ⟨some 150, _, _, _, _, _⟩) (v := ?_) rfl zk zk zk (fun _ _ _ h => h) (Or.inl ⟨zr, ?_⟩) za ?_
     rotate_left
     ·exact zqbkct
     go_frame
     refine wpAnyH_take (i := 46) (oi := ⟨some 151, _, _, _, _, _⟩) (v := ?_) rfl zk zk zk (fun _ _ _ h => h) (Or.inl ⟨zr, ?_⟩) za ?_
     rotate_left
     ·exact zqbkct
     go_frame
     refine wpAnyH_take (i := 47) (oi := ⟨some 152, _, _, _, _, _⟩) (v := ?_) rfl zk zk zk (fun _ _ _ h => h) (Or.inl ⟨zr, ?_⟩) za ?_
     rotate_left
     ·exact zqbkct
     go_frame
     refine wpAnyH_take (i := 48) (oi := ⟨some 153, _, _, _, _, _⟩) (v := undef) rfl zk zk zk (fun _ _ _ h => h) (Or.inr ⟨zr, rfl⟩) za ?_
     go_frame
     refine wpAnyH_take (i := 49) (oi := ⟨some 154, _, _, _, _, _⟩) (v := undef) rfl zk zk zk (fun _ _ _ h => h) (Or.inr ⟨zr, rfl⟩) za ?_
     go_frame
     refine wpAnyH_take (i := 50) (oi := ⟨some 155, _, _, _, _, _⟩) (v := undef) rfl zk zk zk (fun _ _ _ h => h) (Or.inr ⟨zr, rfl⟩) za ?_
     go_frame
     refine wpAnyH_take (i := 51) (oi := ⟨some 156, _, _, _, _, _⟩) (v := undef) rfl zk zk zk (fun _ _ _ h => h) (Or.inr ⟨zr, rfl⟩) za ?_
     go_frame
     refine wpAnyH_take (i := 52) (oi := ⟨some 157, _, _, _, _, _⟩) (v := ?_) rfl zk zk zk (fun _ _ _ h => h) (Or.inl ⟨zr, ?_⟩) za ?_
     rotate_left
     ·exact zqbkct
     go_frame
     refine wpAnyH_take (i := 53) (oi := ⟨some 158, _, _, _, _, _⟩) (v := ?_) rfl zk zk zk (fun _ _ _ h => h) (Or.inl ⟨zr, ?_⟩) za ?_
     rotate_left
     ·exact zqbkct
     go_frame
     refine wpAnyH_done zk ?_ _
     clear hHeld
     go_wp2
     go_roundw
     case rel => exact ⟨p + 1 + 1, zo, by go_num, HBx.out⟩
     case measure => simp [intOf] <;> omega
    ·have tr : (t.ro != 0) = true := by simpa using hr
     replace I1 := zh (fun v g => I1.out v hr g)
     clear hr
     obtain ⟨i0, hi, hz0, hz1, hz2⟩ := info_parts zAo
     replace H := H.drew
     refine wp_region_held_drew (S := fun w' => w'.cell? ⟨w + 1, 0, none⟩ = some (.bool (c.o 0)) ∧ w'.cell? ⟨w + 1, 1, none⟩ = some (.bool (c.o 1)) ∧ w'.cell? ⟨w + 1, 2, none⟩ = some (.bool (c.o 2)) ∧ w'.cell? ⟨w + 1, 3, none⟩ = some (.bool (c.o 3)) ∧ w'.cell? ⟨w + 1, 4, none⟩ = some (.bool (c.o 4)) ∧ w'.cell? ⟨w + 1, 5, none⟩ = some (.bool (c.o 5)) ∧ w'.cell? ⟨w + 1, 6, none⟩ = some (.bool (c.o 6)) ∧ w'.cell? ⟨w + 1, 7, none⟩ = some (.slice aR c.nr cR) ∧ w'.cell? ⟨w + 1, 8, none⟩ = some (.slice aD c.nd cD) ∧ w'.cell? ⟨w4, 0, none⟩ = some (.slice (some ⟨g0, o0, none⟩) (x.q + 1 + 1) c0) ∧ w'.cell? ⟨g0, o0 + (p + 1), none⟩ = some (.int .i64 dk) ∧ w'.cell? ⟨w, 10, none⟩ = some (.int .i64 t.ro)) zk (⟨H.c, H.c, H.c, H.c, H.c, H.c, H.c, H.c, H.c, H.c, H.c, H.c⟩) (fun hHeld => ?_)
     replace HBx := zh (HBx.out.drew)
     obtain ⟨WD, hWD⟩ : ∃ WD, World.drew (wr) = WD := ⟨_, rfl⟩
     rw [hWD] at H hHeld HBx ⊢
     clear hWD
     obtain ⟨b0, hb0⟩ : ∃ b0, WD.heap.size = b0 := ⟨_, rfl⟩
     have HB := Below.refl b0 WD
     have HWD := zh H
     have HS : Hid (∀ W, Below b0 WD W → b0 ≤ W.heap.size) := zh (fun W h => by have z := h.size; rw [hb0] at z; exact z)
     have HU : Hid (∀ W, Below b0 WD W → Below WD WD W) := zh (fun W h => by rw [hb0]; exact h)
     clear hb0
     refine wpAnyH_take (i := 0) (oi := ⟨some 94, _, _, _, _, _⟩) (v := ?_) rfl zk zk zk (fun _ _ _ h => h) (Or.inl ⟨zr, ?_⟩) za ?_
     rotate_left
     ·exact zqbkct
     go_frame
     refine wpAnyH_take (i := 1) (oi := ⟨some 95, _, _, _, _, _⟩) (v := ?_) rfl zk zk zk (fun _ _ _ h => h) (Or.inl ⟨zr, ?_⟩) za ?_
     rotate_left
     ·exact zqbkct
     go_frame
     refine wpAnyH_take (i := 2) (oi := ⟨some 96, _, _, _, _, _⟩) (v := ?_) rfl zk zk zk (fun _ _ _ h => h) (Or.inl ⟨zr, ?_⟩) za ?_
     rotate_left
     ·exact zqbkct
     go_frame
     refine wpAnyH_take (i := 3) (oi := ⟨some 97, _, _, _, _, _⟩) (v := ?_) rfl zk zk zk (fun _ _ _ h => h) (Or.inl ⟨zr, ?_⟩) za ?_
     rotate_left
     ·exact zqbkct
     go_frame
     refine wpAnyH_take (i := 4) (oi := ⟨some 98, _, _, _, _, _⟩) (v := .pointer (some ⟨g0, o0 + (p + 1), none⟩)) rfl zk zk zk (fun _ _ _ h => h) (Or.inl ⟨zr, ?_⟩) za ?_
     ·exact zqbhse
     go_frame
     refine wpAnyH_take (i := 5) (oi := ⟨some 99, _, _, _, _, _⟩) (v := ?_) rfl zk zk zk (fun _ _ _ h => h) (Or.inl ⟨zr, ?_⟩) za ?_
     rotate_left
     ·exact zqbkct
     go_frame
     refine wpAnyH_take (i := 6) (oi := ⟨some 100, _, _, _, _, _⟩) (v := ?_) rfl zk zk zk (fun _ _ _ h => h) (Or.inl ⟨zr, ?_⟩) za ?_
     rotate_left
     ·exact zqbkct
     go_frame
     refine wpAnyH_take (i := 7) (oi := ⟨some 101, _, _, _, _, _⟩) (v := ?_) rfl zk zk zk (fun _ _ _ h => h) (Or.inl ⟨zr, ?_⟩) za ?_
     rotate_left
     ·exact zqbkct
     go_frame
     refine wpAnyH_ready (rs := [8]) zk zs ?_
     refine AllReadyH.cons (o := ⟨some 102, _, _, _, _, _⟩) rfl (fun K hK => ?_) AllReadyH.nil
     go_simp
     with_reducible refine (R1.out _ (H.cal (c := c) (aR := aR) (cR := cR) (aD := aD) (cD := cD))).mono ?_
     rintro e UA1 ⟨rfl, hb⟩
     replace H := H.below hb
     replace HB := HB.trans (hb.mono (HS.out _ HB))
     replace HBx := zh (HBx.out.trans (hb.mono (HZx.out _ HBx.out)))
     clear hb
     go_wp2_with fail
     refine hK.out _ _ (⟨H.c, H.c, H.c, H.c, H.c, H.c, H.c, H.c, H.c, H.c, H.c, H.c⟩) (fun hNew => ?_)
     clear hK K hHeld
     have hHeld := hNew
     clear hNew
     try go_frame
     refine wpAnyH_take (i := 9) (oi := ⟨some 93, _, _, _, _, _⟩) (v := ?_) rfl zk zk zk (fun _ _ _ h => h) (Or.inl ⟨zr, ?_⟩) za ?_
     rotate_left
     ·exact zqbkct
     go_frame
     refine wpAnyH_take (i := 10) (oi := ⟨some 103, _, _, _, _, _⟩) (v := ?_) rfl zk zk zk (fun _ _ _ h => h) (Or.inl ⟨zr, ?_⟩) za ?_
     rotate_left
     ·exact zqbkct
     go_frame
     refine wpAnyH_take (i := 11) (oi := ⟨some 104, _, _, _, _, _⟩) (v := ?_) rfl zk zk zk (fun _ _ _ h => h) (Or.inl ⟨zr, ?_⟩) za ?_
     rotate_left
     ·exact zqbkct
     go_frame
     refine wpAnyH_take (i := 12) (oi := ⟨some 10, _, _, _, _, _⟩) (v := ?_) rfl zk zk zk (fun _ _ _ h => h) (Or.inl ⟨zr, ?_⟩) za ?_
     rotate_left
     ·exact zqbkct
     go_frame
     refine wpAnyH_take (i := 13) (oi := ⟨some 11, _, _, _, _, _⟩) (v := ?_) rfl zk zk zk (fun _ _ _ h => h) (Or.inl ⟨zr, ?_⟩) za ?_
     rotate_left
     ·exact zqbkct
     go_frame
     refine wpAnyH_done zk ?_ _
     clear hHeld
     clear HB HWD HS HU
     go_upto_region 14 with fail
     obtain ⟨i0, hi, hz0, hz1, hz2⟩ := info_parts zAo
     replace H := H.drew
     refine wp_region_held_drew (S := fun w' => w'.cell? ⟨w + 1, 0, none⟩ = some (.bool (c.o 0)) ∧ w'.cell? ⟨w + 1, 1, none⟩ = some (.bool (c.o 1)) ∧ w'.cell? ⟨w + 1, 2, none⟩ = some (.bool (c.o 2)) ∧ w'.cell? ⟨w + 1, 3, none⟩ = some (.bool (c.o 3)) ∧ w'.cell? ⟨w + 1, 4, none⟩ = some (.bool (c.o 4)) ∧ w'.cell? ⟨w + 1, 5, none⟩ = some (.bool (c.o 5)) ∧ w'.cell? ⟨w + 1, 6, none⟩ = some (.bool (c.o 6)) ∧ w'.cell? ⟨w + 1, 7, none⟩ = some (.slice aR c.nr cR) ∧ w'.cell? ⟨w + 1, 8, none⟩ = some (.slice aD c.nd cD) ∧ w'.cell? ⟨w4, 0, none⟩ = some (.slice (some ⟨g0, o0, none⟩) (x.q + 1 + 1) c0) ∧ w'.cell? ⟨w4, 1, none⟩ = some (.slice (some ⟨g1, o1, none⟩) (x.q + 1 + 1) c1) ∧ w'.cell? ⟨g0, o0 + (p + 1), none⟩ = some (.int .i64 dk) ∧ w'.cell? ⟨g1, o1 + (p + 1), none⟩ = some (.int .i64 vk) ∧ w'.cell? ⟨w, 10, none⟩ = some (.int .i64 t.ro) ∧ w'.cell? ⟨g0, o0 + p, none⟩ = some (.int .i64 dp) ∧ w'.cell? ⟨g1, o1 + p, none⟩ = some (.int .i64 vp)) zk (⟨H.c, H.c, H.c, H.c, H.c, H.c, H.c, H.c, H.c, H.c, H.c, H.c, H.c, H.c, H.c, H.c⟩) (fun hHeld => ?_)
     replace HBx := zh (HBx.out.drew)
     obtain ⟨WD, hWD⟩ : ∃ WD, World.drew (UA1) = WD := ⟨_, rfl⟩
     rw [hWD] at H hHeld HBx ⊢
     clear hWD
     obtain ⟨b0, hb0⟩ : ∃ b0, WD.heap.size = b0 := ⟨_, rfl⟩
     have HB := Below.refl b0 WD
     have HWD := zh H
     have HS : Hid (∀ W, Below b0 WD W → b0 ≤ W.heap.size) := zh (fun W h => by have z := h.size; rw [hb0] at z; exact z)
     have HU : Hid (∀ W, Below b0 WD W → Below WD WD W) := zh (fun W h => by rw [hb0]; exact h)
     clear hb0
     refine wpAnyH_take (i := 0) (oi := ⟨some 105, _, _, _, _, _⟩) (v := ?_) rfl zk zk zk (fun _ _ _ h => h) (Or.inl ⟨zr, ?_⟩) za ?_
     rotate_left
     ·exact zqbkct
     go_frame
     refine wpAnyH_take (i := 1) (oi := ⟨some 106, _, _, _, _, _⟩) (v := ?_) rfl zk zk zk (fun _ _ _ h => h) (Or.inl ⟨zr, ?_⟩) za ?_
     rotate_left
     ·exact zqbkct
     go_frame
     refine wpAnyH_take (i := 2) (oi := ⟨some 107, _, _, _, _, _⟩) (v := ?_) rfl zk zk zk (fun _ _ _ h => h) (Or.inl ⟨zr, ?_⟩) za ?_
     rotate_left
     ·exact zqbkct
     go_frame
     refine wpAnyH_take (i := 3) (oi := ⟨some 108, _, _, _, _, _⟩) (v := ?_) rfl zk zk zk (fun _ _ _ h => h) (Or.inl ⟨zr, ?_⟩) za ?_
     rotate_left
     ·exact zqbkct
     go_frame
     refine wpAnyH_take (i := 4) (oi := ⟨some 109, _, _, _, _, _⟩) (v := ?_) rfl zk zk zk (fun _ _ _ h => h) (Or.inl ⟨zr, ?_⟩) za ?_
     rotate_left
     ·exact zqbkct
     go_frame
     refine wpAnyH_take (i := 5) (oi := ⟨some 110, _, _, _, _, _⟩) (v := ?_) rfl zk zk zk (fun _ _ _ h => h) (Or.inl ⟨zr, ?_⟩) za ?_
     rotate_left
     ·exact zqbkct
     go_frame
     refine wpAnyH_take (i := 6) (oi := ⟨some 111, _, _, _, _, _⟩) (v := .pointer (some ⟨g1, o1 + (p + 1), none⟩)) rfl zk zk zk (fun _ _ _ h => h) (Or.inl ⟨zr, ?_⟩) za ?_
     ·exact zqbhse
     go_frame
     refine wpAnyH_take (i := 7) (oi := ⟨some 112, _, _, _, _, _⟩) (v := ?_) rfl zk zk zk (fun _ _ _ h => h) (Or.inl ⟨zr, ?_⟩) za ?_
     rotate_left
     ·exact zqbkct
     go_frame
     refine wpAnyH_take (i := 8) (oi := ⟨some 113, _, _, _, _, _⟩) (v := ?_) rfl zk zk zk (fun _ _ _ h => h) (Or.inl ⟨zr, ?_⟩) za ?_
     rotate_left
     ·exact zqbkct
     go_frame
     refine wpAnyH_take (i := 9) (oi := ⟨some 114, _, _, _, _, _⟩) (v := ?_) rfl zk zk zk (fun _ _ _ h => h) (Or.inl ⟨zr, ?_⟩) za ?_
     rotate_left
     ·exact zqbkct
     go_frame
     refine wpAnyH_take (i := 10) (oi := ⟨some 115, _, _, _, _, _⟩) (v := ?_) rfl zk zk zk (fun _ _ _ h => h) (Or.inl ⟨zr, ?_⟩) za ?_
     rotate_left
     ·exact zqbkct
     go_frame
     refine wpAnyH_take (i := 11) (oi := ⟨some 116, _, _, _, _, _⟩) (v := ?_) rfl zk zk zk (fun _ _ _ h => h) (Or.inl ⟨zr, ?_⟩) za ?_
     rotate_left
     ·exact zqbkct
     go_frame
     refine wpAnyH_take (i := 12) (oi := ⟨some 117, _, _, _, _, _⟩) (v := ?_) rfl zk zk zk (fun _ _ _ h => h) (Or.inl ⟨zr, ?_⟩) za ?_
     rotate_left
     ·exact zqbkct
     go_frame
     refine wpAnyH_take (i := 13) (oi := ⟨some 118, _, _, _, _, _⟩) (v := ?_) rfl zk zk zk (fun _ _ _ h => h) (Or.inl ⟨zr, ?_⟩) za ?_
     rotate_left
     ·exact zqbkct
     go_frame
     refine wpAnyH_take (i := 14) (oi := ⟨some 119, _, _, _, _, _⟩) (v := ?_) rfl zk zk zk (fun _ _ _ h => h) (Or.inl ⟨zr, ?_⟩) za ?_
     rotate_left
     ·exact zqbkct
     go_frame
     refine wpAnyH_take (i := 15) (oi := ⟨some 120, _, _, _, _, _⟩) (v := ?_) rfl zk zk zk (fun _ _ _ h => h) (Or.inl ⟨zr, ?_⟩) za ?_
     rotate_left
     ·exact zqbkct
     go_frame
     refine wpAnyH_take (i := 16) (oi := ⟨some 121, _, _, _, _, _⟩) (v := ?_) rfl zk zk zk (fun _ _ _ h => h) (Or.inl ⟨zr, ?_⟩) za ?_
     rotate_left
     ·exact zqbkct
     go_frame
     refine wpAnyH_take (i := 17) (oi := ⟨some 122, _, _, _, _, _⟩) (v := ?_) rfl zk zk zk (fun _ _ _ h => h) (Or.inl ⟨zr, ?_⟩) za ?_
     rotate_left
     ·exact zqbkct
     go_frame
     refine wpAnyH_take (i := 18) (oi := ⟨some 123, _, _, _, _, _⟩) (v := .pointer (some ⟨g1, o1 + (p + 1), none⟩)) rfl zk zk zk (fun _ _ _ h => h) (Or.inl ⟨zr, ?_⟩) za ?_
     ·exact zqbhse
     go_frame
     refine wpAnyH_take (i := 19) (oi := ⟨some 124, _, _, _, _, _⟩) (v := ?_) rfl zk zk zk (fun _ _ _ h => h) (Or.inl ⟨zr, ?_⟩) za ?_
     rotate_left
     ·exact zqbkct
     go_frame
     refine wpAnyH_take (i := 20) (oi := ⟨some 125, _, _, _, _, _⟩) (v := ?_) rfl zk zk zk (fun _ _ _ h => h) (Or.inl ⟨zr, ?_⟩) za ?_
     rotate_left
     ·exact zqbkct
     go_frame
     refine wpAnyH_take (i := 21) (oi := ⟨some 126, _, _, _, _, _⟩) (v := ?_) rfl zk zk zk (fun _ _ _ h => h) (Or.inl ⟨zr, ?_⟩) za ?_
     rotate_left
     ·exact zqbkct
     go_frame
     refine wpAnyH_take (i := 22) (oi := ⟨some 127, _, _, _, _, _⟩) (v := ?_) rfl zk zk zk (fun _ _ _ h => h) (Or.inl ⟨zr, ?_⟩) za ?_
     rotate_left
     ·exact zqbkct
     go_frame
     refine wpAnyH_take (i := 23) (oi := ⟨some 128, _, _, _, _, _⟩) (v := ?_) rfl zk zk zk (fun _ _ _ h => h) (Or.inl ⟨zr, ?_⟩) za ?_
     rotate_left
     ·exact zqbkct
     go_frame
     refine wpAnyH_take (i := 24) (oi := ⟨some 129, _, _, _, _, _⟩) (v := .pointer (some ⟨g1, o1 + p, none⟩)) rfl zk zk zk (fun _ _ _ h => h) (Or.inl ⟨zr, ?_⟩) za ?_
     ·exact zqbhse
     go_frame
     refine wpAnyH_take (i := 25) (oi := ⟨some 130, _, _, _, _, _⟩) (v := ?_) rfl zk zk zk (fun _ _ _ h => h) (Or.inl ⟨zr, ?_⟩) za ?_
     rotate_left
     ·exact zqbkct
     go_frame
     refine wpAnyH_take (i := 26) (oi := ⟨some 131, _, _, _, _, _⟩) (v := ?_) rfl zk zk zk (fun _ _ _ h => h) (Or.inl ⟨zr, ?_⟩) za ?_
     rotate_left
     ·exact zqbkct
     go_frame
     refine wpAnyH_take (i := 27) (oi := ⟨some 132, _, _, _, _, _⟩) (v := ?_) rfl zk zk zk (fun _ _ _ h => h) (Or.inl ⟨zr, ?_⟩) za ?_
     rotate_left
     ·exact zqbkct
     go_frame
     refine wpAnyH_take (i := 28) (oi := ⟨some 133, _, _, _, _, _⟩) (v := ?_) rfl zk zk zk (fun _ _ _ h => h) (Or.inl ⟨zr, ?_⟩) za ?_
     rotate_left
     ·exact zqbkct
     go_frame
     refine wpAnyH_take (i := 29) (oi := ⟨some 134, _, _, _, _, _⟩) (v := ?_) rfl zk zk zk (fun _ _ _ h => h) (Or.inl ⟨zr, ?_⟩) za ?_
     rotate_left
     ·exact zqbkct
     go_frame
     refine wpAnyH_take (i := 30) (oi := ⟨some 135, _, _, _, _, _⟩) (v := ?_) rfl zk zk zk (fun _ _ _ h => h) (Or.inl ⟨zr, ?_⟩) za ?_
     rotate_left
     ·exact zqbkct
     go_frame
     refine wpAnyH_take (i := 31) (oi := ⟨some 136, _, _, _, _, _⟩) (v := .pointer (some ⟨g0, o0 + (p + 1), none⟩)) rfl zk zk zk (fun _ _ _ h => h) (Or.inl ⟨zr, ?_⟩) za ?_
     ·exact zqbhse
     go_frame
     refine wpAnyH_take (i := 32) (oi := ⟨some 137, _, _, _, _, _⟩) (v := ?_) rfl zk zk zk (fun _ _ _ h => h) (Or.inl ⟨zr, ?_⟩) za ?_
     rotate_left
     ·exact zqbkct
     go_frame
     refine wpAnyH_take (i := 33) (oi := ⟨some 138, _, _, _, _, _⟩) (v := ?_) rfl zk zk zk (fun _ _ _ h => h) (Or.inl ⟨zr, ?_⟩) za ?_
     rotate_left
     ·exact zqbkct
     go_frame
     refine wpAnyH_take (i := 34) (oi := ⟨some 139, _, _, _, _, _⟩) (v := ?_) rfl zk zk zk (fun _ _ _ h => h) (Or.inl ⟨zr, ?_⟩) za ?_
     rotate_left
     ·exact zqbkct
     go_frame
     refine wpAnyH_take (i := 35) (oi := ⟨some 140, _, _, _, _, _⟩) (v := ?_) rfl zk zk zk (fun _ _ _ h => h) (Or.inl ⟨zr, ?_⟩) za ?_
     rotate_left
     ·exact zqbkct
     go_frame
     refine wpAnyH_take (i := 36) (oi := ⟨some 141, _, _, _, _, _⟩) (v := ?_) rfl zk zk zk (fun _ _ _ h => h) (Or.inl ⟨zr, ?_⟩) za ?_
     rotate_left
     ·exact zqbkct
     go_frame
     refine wpAnyH_take (i := 37) (oi := ⟨some 142, _, _, _, _, _⟩) (v := .pointer (some ⟨g0, o0 + p, none⟩)) rfl zk zk zk (fun _ _ _ h => h) (Or.inl ⟨zr, ?_⟩) za ?_
     ·exact zqbhse
     go_frame
     refine wpAnyH_take (i := 38) (oi := ⟨some 143, _, _, _, _, _⟩) (v := ?_) rfl zk zk zk (fun _ _ _ h => h) (Or.inl ⟨zr, ?_⟩) za ?_
     rotate_left
     ·exact zqbkct
     go_frame
     refine wpAnyH_take (i := 39) (oi := ⟨some 144, _, _, _, _, _⟩) (v := ?_) rfl zk zk zk (fun _ _ _ h => h) (Or.inl ⟨zr, ?_⟩) za ?_
     rotate_left
     ·exact zqbkct
     go_frame
     refine wpAnyH_take (i := 40) (oi := ⟨some 145, _, _, _, _, _⟩) (v := ?_) rfl zk zk zk (fun _ _ _ h => h) (Or.inl ⟨zr, ?_⟩) za ?_
     rotate_left
     ·exact zqbkct
     go_frame
     refine wpAnyH_take (i := 41) (oi := ⟨some 146, _, _, _, _, _⟩) (v := ?_) rfl zk zk zk (fun _ _ _ h => h) (Or.inl ⟨zr, ?_⟩) za ?_
     rotate_left
     ·exact zqbkct
     go_frame
     refine wpAnyH_take (i := 42) (oi := ⟨some 147, _, _, _, _, _⟩) (v := ?_) rfl zk zk zk (fun _ _ _ h => h) (Or.inl ⟨zr, ?_⟩) za ?_
     rotate_left
     ·exact zqbkct
     go_frame
     refine wpAnyH_take (i := 43) (oi := ⟨some 148, _, _, _, _, _⟩) (v := ?_) rfl zk zk zk (fun _ _ _ h => h) (Or.inl ⟨zr, ?_⟩) za ?_
     rotate_left
     ·exact zqbkct
     go_frame
     refine wpAnyH_take (i := 44) (oi := ⟨some 149, _, _, _, _, _⟩) (v := ?_) rfl zk zk zk (fun _ _ _ h => h) (Or.inl ⟨zr, ?_⟩) za ?_
     rotate_left
     ·exact zqbkct
     go_frame
     refine wpAnyH_take (i := 45) (oi := ⟨some 150, _, _, _, _, _⟩) (v := ?_) rfl zk zk zk (fun _ _ _ h => h) (Or.inl ⟨zr, ?_⟩) za ?_
     rotate_left
     ·exact zqbkct
     go_frame
     refine wpAnyH_take (i := 46) (oi := ⟨some 151, _, _, _, _, _⟩) (v := ?_) rfl zk zk zk (fun _ _ _ h => h) (Or.inl ⟨zr, ?_⟩) za ?_
     rotate_left
     ·exact zqbkct
     go_frame
     refine wpAnyH_take (i := 47) (oi := ⟨some 152, _, _, _, _, _⟩) (v := ?_) rfl zk zk zk (fun _ _ _ h => h) (Or.inl ⟨zr, ?_⟩) za ?_
     rotate_left
     ·exact zqbkct
     go_frame
     refine wpAnyH_take (i := 48) (oi := ⟨some 153, _, _, _, _, _⟩) (v := ?_) rfl zk zk zk (fun _ _ _ h => h) (Or.inl ⟨zr, ?_⟩) za ?_
     rotate_left
     ·exact zqbkct
     go_frame
     refine wpAnyH_take (i := 49) (oi := ⟨some 154, _, _, _, _, _⟩) (v := ?_) rfl zk zk zk (fun _ _ _ h => h) (Or.inl ⟨zr, ?_⟩) za ?_
     rotate_left
     ·exact zqbkct
     go_frame
     refine wpAnyH_ready (rs := [50]) zk zs ?_
     refine AllReadyH.cons (o := ⟨some 155, _, _, _, _, _⟩) rfl (fun K hK => ?_) AllReadyH.nil
     go_simp
     with_reducible refine (I1.out _ (H.cal (c := c) (aR := aR) (cR := cR) (aD := aD) (cD := cD))).mono ?_
     rintro e UB1 ⟨rfl, hb⟩
     replace H := H.below hb
     replace HB := HB.trans (hb.mono (HS.out _ HB))
     replace HBx := zh (HBx.out.trans (hb.mono (HZx.out _ HBx.out)))
     clear hb
     go_wp2_with fail
     refine hK.out _ _ (⟨H.c, H.c, H.c, H.c, H.c, H.c, H.c, H.c, H.c, H.c, H.c, H.c, H.c, H.c, H.c, H.c⟩) (fun hNew => ?_)
     clear hK K hHeld
     have hHeld := hNew
     clear hNew
     try go_frame
     refine wpAnyH_take (i := 51) (oi := ⟨some 156, _, _, _, _, _⟩) (v := ?_) rfl zk zk zk (fun _ _ _ h => h) (Or.inl ⟨zr, ?_⟩) za ?_
     rotate_left
     ·exact zqbkct
     go_frame
     refine wpAnyH_take (i := 52) (oi := ⟨some 157, _, _, _, _, _⟩) (v := ?_) rfl zk zk zk (fun _ _ _ h => h) (Or.inl ⟨zr, ?_⟩) za ?_
     rotate_left
     ·exact zqbkct
     go_frame
     refine wpAnyH_take (i := 53) (oi := ⟨some 158, _, _, _, _, _⟩) (v := ?_) rfl zk zk zk (fun _ _ _ h => h) (Or.inl ⟨zr, ?_⟩) za ?_
     rotate_left
     ·exact zqbkct
     go_frame
     refine wpAnyH_done zk ?_ _
     clear hHeld
     go_wp2
     go_roundw
     case rel => exact ⟨p + 1 + 1, zo, by go_num, HBx.out⟩
     case measure => simp [intOf] <;> omega
  ·obtain rfl : k = x.q + 2 := zo
   go_wp2
   go_ret
   exact ⟨rfl, H.old⟩
theorem zK9 (t : Tm) (c : Ca) (aR : Option Addr) (cR : Nat) (aD : Option Addr) (cD : Nat) (w : World) (hL : FactsS w) (hC : CalAt w c aR cR aD cD) : Calls Tryz.prog 4 #[.agg #[t.mo, t.ra, t.ki, t.co, t.st, t.en, t.ms, t.bk, t.lg, t.eo, t.ro], .agg #[(c.o 0), (c.o 1), (c.o 2), (c.o 3), (c.o 4), (c.o 5), (c.o 6), .slice aR c.nr cR, .slice aD c.nd cD]] w fun e w' => e = .returned true ∧ Below w w w' := by
 by_cases hc : t.code = 0
 ·by_cases h : c.Few ∧ c.May ∧ t.en - t.st ≤ 31 * 60
  ·obtain ⟨x, hx, hS⟩ := plan_is t c (fun _ => by have := h.2.2; omega)
   by_cases hy : x.code t = 0
   ·exact zK8 t c aR cR aD cD x w hL hC hc h.1 h.2.1 (by have := h.2.2; omega) hx hS hy
   ·exact zLz t c aR cR aD cD x _ w hL hC hc h.1 h.2.1 (by have := h.2.2; omega) hx hS rfl hy
  ·exact zM0 t c aR cR aD cD w hL hC hc ⟨fun g => (by cases g), fun g => absurd g h⟩
 ·exact zPa t c aR cR aD cD _ w hL hC rfl hc
end Go.Proofs.YtpfgdfpaoldhcaaGreatDoor
