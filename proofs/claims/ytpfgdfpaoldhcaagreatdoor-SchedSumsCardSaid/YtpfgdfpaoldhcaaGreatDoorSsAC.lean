/- Several texts in one: ScSums. -/
import Derived.Test.YtpfgdfpaoldhcaaGreatDoorSrBL
import Derived.Test.YtpfgdfpaoldhcaaGreatDoorSsAB
set_option maxHeartbeats 8000000
set_option maxRecDepth 100000
set_option linter.unusedVariables false
set_option linter.unusedSimpArgs false
namespace Go.Proofs.YtpfgdfpaoldhcaaGreatDoor
open Go.RowKit
theorem refadd17_is (an ad bn bd p q c : Int) (w : World) (ha : zAi an ad = true) (hb : zAi bn bd = true) (h : rN (an * bd + bn * ad) (ad * bd) = p ∧ rD (an * bd + bn * ad) (ad * bd) = q ∧ rE (an * bd + bn * ad) (ad * bd) = c) :
  Calls Tryz.prog 18 #[.agg #[an, ad], .agg #[bn, bd]] w fun e w' => e = .returned (.tuple #[.agg #[p, q], c]) ∧ Below w w w' := by
 obtain ⟨rfl, rfl, rfl⟩ := h; exact zHu an ad bn bd w ha hb
theorem scsums_no (t : Tm) (c : Ca) (aR : Option Addr) (cR : Nat) (aD : Option Addr) (cD : Nat) (y : Int) (w : World) (hL : FactsS w) (hC : CalAt w c aR cR aD cD) (hc : t.code = y) (h0 : y ≠ 0) : Calls Tryz.prog 5 #[.agg #[t.mo, t.ra, t.ki, t.co, t.st, t.en, t.ms, t.bk, t.lg, t.eo, t.ro], .agg #[(c.o 0), (c.o 1), (c.o 2), (c.o 3), (c.o 4), (c.o 5), (c.o 6), .slice aR c.nr cR, .slice aD c.nd cD]] w fun e w' => e = .returned true ∧ Below w w w' := by
 have H := ((Held.start w).add (f := zAg) hL).add (f := calF c aR cR aD cD) hC
 have CK := zh (fun v => zEv t.mo t.ra t.ki t.co t.st t.en t.ms t.bk t.lg t.eo t.ro y v hc)
 have CNe : Hid ((y != 0) = true) := zh (by simpa using h0)
 have CE : Hid ((y == 0) = false) := zh (by simpa using h0)
 clear hc
 clear hL hC
 go_enter Tryz.func5, Tryz.ntmps5
 go_wp2_with fail
 replace H := H.box_11 w t.mo t.ra t.ki t.co t.st t.en t.ms t.bk t.lg t.eo t.ro 23 rfl
 replace H := H.box_9 (w + 1) (c.o 0) (c.o 1) (c.o 2) (c.o 3) (c.o 4) (c.o 5) (c.o 6) (.slice aR c.nr cR) (.slice aD c.nd cD) 28 zs
 revert H
 with_reducible refine zG (fun H => zD0 _ (H.factsS)) ?_
 intro w1 H
 obtain ⟨ct0, ct1, ct2, ct3, ct4, ct5, ct6, ct7, ct8, ct9, ct10⟩ := H.cells11 w
 have lt := zA0 ct0
 go_wp2_with fail
 clear ct0 ct1 ct2 ct3 ct4 ct5 ct6 ct7 ct8 ct9 ct10 lt
 revert H
 with_reducible refine zG (fun _ => CK.out _) ?_
 intro w2 H
 have cn := CNe.out
 have ce := CE.out
 go_wp2
 go_ret
 exact ⟨rfl, H.old⟩
theorem scsums_far (t : Tm) (c : Ca) (aR : Option Addr) (cR : Nat) (aD : Option Addr) (cD : Nat) (w : World) (hL : FactsS w) (hC : CalAt w c aR cR aD cD) (hc : t.code = 0) (hb : false = true ↔ (c.Few ∧ c.May ∧ t.en - t.st ≤ 31 * 60)) : Calls Tryz.prog 5 #[.agg #[t.mo, t.ra, t.ki, t.co, t.st, t.en, t.ms, t.bk, t.lg, t.eo, t.ro], .agg #[(c.o 0), (c.o 1), (c.o 2), (c.o 3), (c.o 4), (c.o 5), (c.o 6), .slice aR c.nr cR, .slice aD c.nd cD]] w fun e w' => e = .returned true ∧ Below w w w' := by
 have H := ((Held.start w).add (f := zAg) hL).add (f := calF c aR cR aD cD) hC
 have CK := zh (fun v => zEv t.mo t.ra t.ki t.co t.st t.en t.ms t.bk t.lg t.eo t.ro 0 v hc)
 have SHT := zh (fun v h => zEe t c aR cR aD cD 60 false v h hc zo hb)
 clear hc hb
 clear hL hC
 go_enter Tryz.func5, Tryz.ntmps5
 go_wp2_with fail
 replace H := H.box_11 w t.mo t.ra t.ki t.co t.st t.en t.ms t.bk t.lg t.eo t.ro 23 rfl
 replace H := H.box_9 (w + 1) (c.o 0) (c.o 1) (c.o 2) (c.o 3) (c.o 4) (c.o 5) (c.o 6) (.slice aR c.nr cR) (.slice aD c.nd cD) 28 zs
 revert H
 with_reducible refine zG (fun H => zD0 _ (H.factsS)) ?_
 intro w1 H
 obtain ⟨ct0, ct1, ct2, ct3, ct4, ct5, ct6, ct7, ct8, ct9, ct10⟩ := H.cells11 w
 have lt := zA0 ct0
 go_wp2_with fail
 clear ct0 ct1 ct2 ct3 ct4 ct5 ct6 ct7 ct8 ct9 ct10 lt
 revert H
 with_reducible refine zG (fun _ => CK.out _) ?_
 intro w2 H
 obtain ⟨ct0, ct1, ct2, ct3, ct4, ct5, ct6, ct7, ct8, ct9, ct10⟩ := H.cells11 w
 have lt := zA0 ct0
 obtain ⟨cc0, cc1, cc2, cc3, cc4, cc5, cc6, cc7, cc8⟩ := H.cells9 (w + 1)
 have lc := zA0 cc0
 go_wp2_with fail
 clear ct0 ct1 ct2 ct3 ct4 ct5 ct6 ct7 ct8 ct9 ct10 lt cc0 cc1 cc2 cc3 cc4 cc5 cc6 cc7 cc8 lc
 revert H
 with_reducible refine zG (fun H => SHT.out _ (H.cal (c := c) (aR := aR) (cR := cR) (aD := aD) (cD := cD))) ?_
 intro w3 H
 go_wp2
 go_ret
 exact ⟨rfl, H.old⟩
theorem scsums_few (t : Tm) (c : Ca) (aR : Option Addr) (cR : Nat) (aD : Option Addr) (cD : Nat) (w : World) (hL : FactsS w) (hC : CalAt w c aR cR aD cD) (hc : t.code = 0) (hF : c.Few) (hM : c.May) (hsh : t.en - t.st ≤ 1860) (h3 : t.co < 3) : Calls Tryz.prog 5 #[.agg #[t.mo, t.ra, t.ki, t.co, t.st, t.en, t.ms, t.bk, t.lg, t.eo, t.ro], .agg #[(c.o 0), (c.o 1), (c.o 2), (c.o 3), (c.o 4), (c.o 5), (c.o 6), .slice aR c.nr cR, .slice aD c.nd cD]] w fun e w' => e = .returned true ∧ Below w w w' := by
 have H := ((Held.start w).add (f := zAg) hL).add (f := calF c aR cR aD cD) hC
 have CK := zh (fun v => zEv t.mo t.ra t.ki t.co t.st t.en t.ms t.bk t.lg t.eo t.ro 0 v hc)
 have SHT := zh (fun v h => zEe t c aR cR aD cD 60 true v h hc zo ⟨fun _ => ⟨hF, hM, zo⟩, fun _ => rfl⟩)
 have Q3 : Hid (decide (t.co < 3) = true) := zh (decide_eq_true h3)
 clear hc hF hM hsh h3
 clear hL hC
 go_enter Tryz.func5, Tryz.ntmps5
 go_wp2_with fail
 replace H := H.box_11 w t.mo t.ra t.ki t.co t.st t.en t.ms t.bk t.lg t.eo t.ro 23 rfl
 replace H := H.box_9 (w + 1) (c.o 0) (c.o 1) (c.o 2) (c.o 3) (c.o 4) (c.o 5) (c.o 6) (.slice aR c.nr cR) (.slice aD c.nd cD) 28 zs
 revert H
 with_reducible refine zG (fun H => zD0 _ (H.factsS)) ?_
 intro w1 H
 obtain ⟨ct0, ct1, ct2, ct3, ct4, ct5, ct6, ct7, ct8, ct9, ct10⟩ := H.cells11 w
 have lt := zA0 ct0
 go_wp2_with fail
 clear ct0 ct1 ct2 ct3 ct4 ct5 ct6 ct7 ct8 ct9 ct10 lt
 revert H
 with_reducible refine zG (fun _ => CK.out _) ?_
 intro w2 H
 obtain ⟨ct0, ct1, ct2, ct3, ct4, ct5, ct6, ct7, ct8, ct9, ct10⟩ := H.cells11 w
 have lt := zA0 ct0
 obtain ⟨cc0, cc1, cc2, cc3, cc4, cc5, cc6, cc7, cc8⟩ := H.cells9 (w + 1)
 have lc := zA0 cc0
 go_wp2_with fail
 clear ct0 ct1 ct2 ct3 ct4 ct5 ct6 ct7 ct8 ct9 ct10 lt cc0 cc1 cc2 cc3 cc4 cc5 cc6 cc7 cc8 lc
 revert H
 with_reducible refine zG (fun H => SHT.out _ (H.cal (c := c) (aR := aR) (cR := cR) (aD := aD) (cD := cD))) ?_
 intro w3 H
 obtain ⟨ct0, ct1, ct2, ct3, ct4, ct5, ct6, ct7, ct8, ct9, ct10⟩ := H.cells11 w
 have lt := zA0 ct0
 have q3 := Q3.out
 go_wp2
 go_ret
 exact ⟨rfl, H.old⟩
theorem scsums_bad (t : Tm) (c : Ca) (aR : Option Addr) (cR : Nat) (aD : Option Addr) (cD : Nat) (x : Pl) (y : Int) (w : World) (hL : FactsS w) (hC : CalAt w c aR cR aD cD) (hc : t.code = 0) (hF : c.Few) (hM : c.May) (hsh : t.en - t.st ≤ 1860) (h3 : 3 ≤ t.co) (hx : PlanIs t c x) (hS : t.code = 0 → x.Short) (hy : x.code t = y) (h0 : y ≠ 0) : Calls Tryz.prog 5 #[.agg #[t.mo, t.ra, t.ki, t.co, t.st, t.en, t.ms, t.bk, t.lg, t.eo, t.ro], .agg #[(c.o 0), (c.o 1), (c.o 2), (c.o 3), (c.o 4), (c.o 5), (c.o 6), .slice aR c.nr cR, .slice aD c.nd cD]] w fun e w' => e = .returned true ∧ Below w w w' := by
 have H := ((Held.start w).add (f := zAg) hL).add (f := calF c aR cR aD cD) hC
 have CK := zh (fun v => zEv t.mo t.ra t.ki t.co t.st t.en t.ms t.bk t.lg t.eo t.ro 0 v hc)
 have SHT := zh (fun v h => zEe t c aR cR aD cD 60 true v h hc zo ⟨fun _ => ⟨hF, hM, zo⟩, fun _ => rfl⟩)
 have O1 : Hid (∀ v, FactsS v → CalAt v c aR cR aD cD → Calls Tryz.prog 11 #[.agg #[t.mo, t.ra, t.ki, t.co, t.st, t.en, t.ms, t.bk, t.lg, t.eo, t.ro], .agg #[(c.o 0), (c.o 1), (c.o 2), (c.o 3), (c.o 4), (c.o 5), (c.o 6), .slice aR c.nr cR, .slice aD c.nd cD]] v fun e w' => PlanOut x t v.heap.size e w' ∧ Below v v w') := zh (fun v h g => zIv t c aR cR aD cD x v h g hM hx hS)
 have Q3 : Hid (decide (t.co < 3) = false) := zh (decide_eq_false zo)
 have Y0 : Hid ((y != 0) = true) := zh (by simpa using h0)
 have HB := zh (fun n0 e W (h : PlanOut x t n0 e W) => h.bad hy h0)
 clear hc hF hM hsh hx hS hy h3
 clear hL hC
 go_enter Tryz.func5, Tryz.ntmps5
 go_wp2_with fail
 replace H := H.box_11 w t.mo t.ra t.ki t.co t.st t.en t.ms t.bk t.lg t.eo t.ro 23 rfl
 replace H := H.box_9 (w + 1) (c.o 0) (c.o 1) (c.o 2) (c.o 3) (c.o 4) (c.o 5) (c.o 6) (.slice aR c.nr cR) (.slice aD c.nd cD) 28 zs
 revert H
 with_reducible refine zG (fun H => zD0 _ (H.factsS)) ?_
 intro w1 H
 obtain ⟨ct0, ct1, ct2, ct3, ct4, ct5, ct6, ct7, ct8, ct9, ct10⟩ := H.cells11 w
 have lt := zA0 ct0
 go_wp2_with fail
 clear ct0 ct1 ct2 ct3 ct4 ct5 ct6 ct7 ct8 ct9 ct10 lt
 revert H
 with_reducible refine zG (fun _ => CK.out _) ?_
 intro w2 H
 obtain ⟨ct0, ct1, ct2, ct3, ct4, ct5, ct6, ct7, ct8, ct9, ct10⟩ := H.cells11 w
 have lt := zA0 ct0
 obtain ⟨cc0, cc1, cc2, cc3, cc4, cc5, cc6, cc7, cc8⟩ := H.cells9 (w + 1)
 have lc := zA0 cc0
 go_wp2_with fail
 clear ct0 ct1 ct2 ct3 ct4 ct5 ct6 ct7 ct8 ct9 ct10 lt cc0 cc1 cc2 cc3 cc4 cc5 cc6 cc7 cc8 lc
 revert H
 with_reducible refine zG (fun H => SHT.out _ (H.cal (c := c) (aR := aR) (cR := cR) (aD := aD) (cD := cD))) ?_
 intro w3 H
 have q3 := Q3.out
 obtain ⟨ct0, ct1, ct2, ct3, ct4, ct5, ct6, ct7, ct8, ct9, ct10⟩ := H.cells11 w
 have lt := zA0 ct0
 obtain ⟨cc0, cc1, cc2, cc3, cc4, cc5, cc6, cc7, cc8⟩ := H.cells9 (w + 1)
 have lc := zA0 cc0
 go_wp2_with fail
 clear ct0 ct1 ct2 ct3 ct4 ct5 ct6 ct7 ct8 ct9 ct10 lt cc0 cc1 cc2 cc3 cc4 cc5 cc6 cc7 cc8 lc
 clear q3
 with_reducible refine (O1.out _ (H.factsS) (H.cal (c := c) (aR := aR) (cR := cR) (aD := aD) (cD := cD))).mono ?_
 rintro e w4 ⟨hp, hb⟩
 obtain ⟨a0, a1, a2, a3, c0, c1, c2, c3, rfl⟩ := HB.out _ _ _ hp
 replace H := H.below hb
 have y0 := Y0.out
 clear hb hp
 go_wp2
 go_ret
 have hs := H.size
 exact ⟨rfl, by first | exact H.old | exact H.old.alloc hs _⟩
theorem scsums_good (t : Tm) (c : Ca) (aR : Option Addr) (cR : Nat) (aD : Option Addr) (cD : Nat) (x : Pl) (w : World) (hL : FactsS w) (hC : CalAt w c aR cR aD cD) (hc : t.code = 0) (hF : c.Few) (hM : c.May) (hsh : t.en - t.st ≤ 1860) (h3 : 3 ≤ t.co) (hx : PlanIs t c x) (hS : t.code = 0 → x.Short) (hy : x.code t = 0) : Calls Tryz.prog 5 #[.agg #[t.mo, t.ra, t.ki, t.co, t.st, t.en, t.ms, t.bk, t.lg, t.eo, t.ro], .agg #[(c.o 0), (c.o 1), (c.o 2), (c.o 3), (c.o 4), (c.o 5), (c.o 6), .slice aR c.nr cR, .slice aD c.nd cD]] w fun e w' => e = .returned true ∧ Below w w w' := by
 have H := ((Held.start w).add (f := zAg) hL).add (f := calF c aR cR aD cD) hC
 have CK := zh (fun v => zEv t.mo t.ra t.ki t.co t.st t.en t.ms t.bk t.lg t.eo t.ro 0 v hc)
 have SHT := zh (fun v h => zEe t c aR cR aD cD 60 true v h hc zo ⟨fun _ => ⟨hF, hM, zo⟩, fun _ => rfl⟩)
 have O1 : Hid (∀ v, FactsS v → CalAt v c aR cR aD cD → Calls Tryz.prog 11 #[.agg #[t.mo, t.ra, t.ki, t.co, t.st, t.en, t.ms, t.bk, t.lg, t.eo, t.ro], .agg #[(c.o 0), (c.o 1), (c.o 2), (c.o 3), (c.o 4), (c.o 5), (c.o 6), .slice aR c.nr cR, .slice aD c.nd cD]] v fun e w' => PlanOut x t v.heap.size e w' ∧ Below v v w') := zh (fun v h g => zIv t c aR cR aD cD x v h g hM hx hS)
 have Q3 : Hid (decide (t.co < 3) = false) := zh (decide_eq_false zo)
 have HB1 := zh (fun n0 e W (h : PlanOut x t n0 e W) => h.fine hy)
 have hF17 := hx.fine17 hy
 have hk6 := (t.of_zero hc).1.2.1
 have hMo := (t.of_zero hc).1.2.2.2
 obtain ⟨U, Z, hU0, hZ0, hSU, hAL⟩ := hF17.sums ⟨h3, hk6.2⟩
 have SU := zh hSU
 have hq9 : x.q ≤ 90 := (hS hc).q
 have hn : x.ns t ≤ 100 := by have := (hS hc).k; unfold Pl.ns; split <;> omega
 have PT : Hid (∀ v a3 q3, DaysAt v a3 x.GV (x.ns t) q3 → Calls Tryz.prog 19 #[t.co, (x.V 0), (x.V (x.q + 1):Int), .agg #[t.eo, (x.V (x.q + 1):Int), (fr t.ms), .slice a3 (x.ns t) q3]] v fun e w' => e = .returned (.tuple #[.agg #[.int .i64 (U (x.q + 1)), (Z (x.q + 1):Int)], (0:Int)]) ∧ Below v v w') := zh (fun v a3 q3 hd => rpart10_any t.co (x.V 0) (x.V (x.q + 1)) t.eo (x.V (x.q + 1)) (fr t.ms) a3 (x.ns t) q3 x.GV (U (x.q + 1)) (Z (x.q + 1)) 0 v hn hd.row hAL)
 have WH : Hid (t.co = 6 → ∀ i, 1 ≤ i → i < x.q → x.V i < x.V (i + 1) → x.P i = 1 ∧ x.Q i = fr t.ms) := zh (fun h6 i h1 h2 hv => hx.whole hy h6 h1 h2 hv)
 have MF := zh (fr_div hMo)
 have M0 : Hid (¬ t.ms = 0) := zh (by have := zRu hMo; omega)
 have FB : Hid (IntKind.i64.wrap (fr t.ms) = fr t.ms) := zh (IntWalk.i64_in _ (by have := fr_in hMo; omega))
 clear hc hF hM hsh hx hS hy hF17 hk6 hMo hSU hAL hn h3
 clear hL hC
 go_enter Tryz.func5, Tryz.ntmps5
 go_wp2_with fail
 replace H := H.box_11 w t.mo t.ra t.ki t.co t.st t.en t.ms t.bk t.lg t.eo t.ro 23 rfl
 replace H := H.box_9 (w + 1) (c.o 0) (c.o 1) (c.o 2) (c.o 3) (c.o 4) (c.o 5) (c.o 6) (.slice aR c.nr cR) (.slice aD c.nd cD) 28 zs
 revert H
 with_reducible refine zG (fun H => zD0 _ (H.factsS)) ?_
 intro w1 H
 obtain ⟨ct0, ct1, ct2, ct3, ct4, ct5, ct6, ct7, ct8, ct9, ct10⟩ := H.cells11 w
 have lt := zA0 ct0
 go_wp2_with fail
 clear ct0 ct1 ct2 ct3 ct4 ct5 ct6 ct7 ct8 ct9 ct10 lt
 revert H
 with_reducible refine zG (fun _ => CK.out _) ?_
 intro w2 H
 obtain ⟨ct0, ct1, ct2, ct3, ct4, ct5, ct6, ct7, ct8, ct9, ct10⟩ := H.cells11 w
 have lt := zA0 ct0
 obtain ⟨cc0, cc1, cc2, cc3, cc4, cc5, cc6, cc7, cc8⟩ := H.cells9 (w + 1)
 have lc := zA0 cc0
 go_wp2_with fail
 clear ct0 ct1 ct2 ct3 ct4 ct5 ct6 ct7 ct8 ct9 ct10 lt cc0 cc1 cc2 cc3 cc4 cc5 cc6 cc7 cc8 lc
 revert H
 with_reducible refine zG (fun H => SHT.out _ (H.cal (c := c) (aR := aR) (cR := cR) (aD := aD) (cD := cD))) ?_
 intro w3 H
 have q3 := Q3.out
 obtain ⟨ct0, ct1, ct2, ct3, ct4, ct5, ct6, ct7, ct8, ct9, ct10⟩ := H.cells11 w
 have lt := zA0 ct0
 obtain ⟨cc0, cc1, cc2, cc3, cc4, cc5, cc6, cc7, cc8⟩ := H.cells9 (w + 1)
 have lc := zA0 cc0
 go_wp2_with fail
 clear ct0 ct1 ct2 ct3 ct4 ct5 ct6 ct7 ct8 ct9 ct10 lt cc0 cc1 cc2 cc3 cc4 cc5 cc6 cc7 cc8 lc
 clear q3
 with_reducible refine (O1.out _ (H.factsS) (H.cal (c := c) (aR := aR) (cR := cR) (aD := aD) (cD := cD))).mono ?_
 rintro e w4 ⟨hp, hb⟩
 obtain ⟨a0, a1, a2, a3, c0, c1, c2, c3, rfl, -, hd1, hd2, hd3⟩ := HB1.out _ _ _ hp
 obtain ⟨g1, o1, rfl, hk1⟩ := hd1.2 zo
 obtain ⟨g2, o2, rfl, -⟩ := hd2.2 zo
 have hcc1 := hd1.1
 have hcc2 := hd2.1
 replace H := (((H.below hb).add (f := zAb (some ⟨g1, o1, none⟩) x.V (x.q + 1 + 1) c1) hd1).add (f := ratF (some ⟨g2, o2, none⟩) x.P x.Q (x.q + 1) c2) hd2).add (f := zAb a3 x.GV (x.ns t) c3) hd3
 have k0 := hk1 0 zo
 have kn := hk1 (x.q + 1) zo
 rw [Nat.add_zero] at k0
 replace H := (H.add (f := .cell g1 o1 (x.V 0)) k0).add (f := .cell g1 (o1 + (x.q + 1)) (x.V (x.q + 1):Int)) kn
 clear hb hp hd1 hd2 hd3 hk1 k0 kn
 go_upto_region 5 with fail
 replace H := H.box_7 w4 (.slice a0 (x.q + 1 + 1) c0) (.slice (some ⟨g1, o1, none⟩) (x.q + 1 + 1) c1) (.slice (some ⟨g2, o2, none⟩) (x.q + 1) c2) t.eo (x.V (x.q + 1):Int) (fr t.ms) (.slice a3 (x.ns t) c3) 35 rfl
 revert H
 generalize World.alloc _ _ = W5
 intro H
 obtain ⟨ct0, ct1, ct2, ct3, ct4, ct5, ct6, ct7, ct8, ct9, ct10⟩ := H.cells11 w
 have lt := zA0 ct0
 obtain ⟨cp0, cp1, cp2, cp3, cp4, cp5, cp6⟩ := H.cells7 w4
 have lp := zA0 cp0
 have t1 : decide (((x.q : Int) + 1 + 1) < 2) = false := decide_eq_false zo
 have tw1 : IntKind.i64.wrap ((x.q : Int) + 1 + 1 - 1) = (x.q : Int) + 1 := (IntWalk.i64_in _ zo).trans zo
 go_upto_region 10 with fail
 clear t1 ct0 ct1 ct2 ct3 ct4 ct5 ct6 ct7 ct8 ct9 ct10 lt cp0 cp1 cp2 cp3 cp4 cp5 cp6 lp
 have HH := zh H
 clear H
 go_upto_region 11 with fail
 obtain ⟨W7, hW7⟩ : ∃ W7, W5.alloc (.cells #[(0:Int), (1:Int)] 48) = W7 := ⟨_, rfl⟩
 have b7 : Below W5 W5 W7 := hW7 ▸ (Below.refl _ _).alloc (Nat.le_refl _) _
 have s0 : W7.cell? ⟨W5, 0, none⟩ = some (.int .i64 0) := hW7 ▸ zn
 have s1 : W7.cell? ⟨W5, 1, none⟩ = some (.int .i64 1) := hW7 ▸ zn
 have f0 : W7.frozen? ⟨W5, 0, none⟩ = false := hW7 ▸ (by simp [go_sem])
 have f1 : W7.frozen? ⟨W5, 1, none⟩ = false := hW7 ▸ (by simp [go_sem])
 obtain ⟨S, hS⟩ : ∃ S, W5.heap.size = S := ⟨_, rfl⟩
 rw [hW7, hS]
 rw [hS] at b7 s0 s1 f0 f1
 clear hW7
 have HSS := zh hS
 have HZx : Hid (∀ W, Below S W5 W → S ≤ W.heap.size) := zh (fun W h => by have := h.size; omega)
 clear hS
 go_wp2_with fail
 go_loopw [10, 11, 12] (fun i s11 s12 wr => ∃ k : Nat, k ≤ x.q + 1 ∧ i = .int .i64 (k : Int) ∧ Below S W5 wr ∧ wr.cell? ⟨S, 0, none⟩ = some (.int .i64 (U k)) ∧ wr.cell? ⟨S, 1, none⟩ = some (.int .i64 (Z k)) ∧ wr.frozen? ⟨S, 0, none⟩ = false ∧ wr.frozen? ⟨S, 1, none⟩ = false) (fun i _ _ _ => x.q + 1 - (intOf i).toNat)
 case atStart => exact ⟨0, zo, rfl, b7, by rw [hU0]; exact s0, by rw [hZ0]; exact s1, f0, f1⟩
 case round =>
  obtain ⟨i, hk, rfl, hB, c0, c1, g0, g1'⟩ := hrel
  have lS := zA0 c0
  have H := ((((HH.out.below (HSS.out.symm ▸ hB)).add (f := .free S 0) ⟨lS, g0⟩).add (f := .free S 1) ⟨lS, g1'⟩).add (f := .cell S 0 (.int .i64 (U i))) c0).add (f := .cell S 1 (.int .i64 (Z i))) c1
  have HBx := zh hB
  clear hB b7 s0 s1 f0 f1 c0 c1 g0 g1' lS
  by_cases hlt : i < x.q + 1
  ·obtain ⟨bb, oo, ee, hcR⟩ := (H.rat (ao := (some ⟨g2, o2, none⟩)) (P := x.P) (Q := x.Q) (n := x.q + 1) (cap := c2)).2 zo
   injection ee with ee
   injection ee with e1 e2 _
   subst e1 e2
   obtain ⟨kp, kq⟩ := hcR i zo
   rw [Nat.mul_comm 2 i] at kp kq
   obtain ⟨hr1, hr2, hr3⟩ := SU.out i hlt
   obtain ⟨ui, hui⟩ : ∃ z, U i = z := ⟨_, rfl⟩
   obtain ⟨zi, hzi⟩ : ∃ z, Z i = z := ⟨_, rfl⟩
   obtain ⟨un, hun⟩ : ∃ z, U (i + 1) = z := ⟨_, rfl⟩
   obtain ⟨zn_, hzn⟩ : ∃ z, Z (i + 1) = z := ⟨_, rfl⟩
   obtain ⟨pi, hpi⟩ : ∃ z, x.P i = z := ⟨_, rfl⟩
   obtain ⟨qi, hqi⟩ : ∃ z, x.Q i = z := ⟨_, rfl⟩
   rw [hui, hzi] at H
   rw [hui, hzi] at hr1
   rw [hpi, hqi] at hr2
   rw [hui, hzi, hun, hzn, hpi, hqi] at hr3
   rw [hpi] at kp
   rw [hqi] at kq
   have R1 := zh (fun v => rright_is pi qi true v hr2)
   have A1 := zh (fun v => refadd17_is ui zi pi qi un zn_ 0 v hr1 hr2 hr3)
   replace H := (H.add (f := .cell g2 (o2 + i * 2) pi) kp).add (f := .cell g2 (o2 + i * 2 + 1) qi) kq
   have twi : IntKind.i64.wrap ((i : Int) + 1) = (i : Int) + 1 := IntWalk.i64_in _ zo
   have kl := H.cell w4 2 _
   have ll := zA0 kl
   have r0 := H.cell g2 (o2 + i * 2) _
   have r1 := H.cell g2 (o2 + i * 2 + 1) _
   clear hcR kp kq hui hzi hpi hqi hr1 hr2 hr3
   go_wp2_with fail
   with_reducible refine (R1.out _).mono ?_
   rintro e vr ⟨rfl, hb⟩
   replace H := H.below hb
   replace HBx := zh (HBx.out.trans (hb.mono (HZx.out _ HBx.out)))
   clear hb r0 r1 kl ll
   go_upto_region 16 with fail
   obtain ⟨i0, hi, hz0, hz1, hz2⟩ := info_parts zAo
   replace H := H.drew
   refine wp_region_held_drew (S := fun w' => w'.cell? ⟨S, 0, none⟩ = some (.int .i64 ui) ∧ w'.cell? ⟨S, 1, none⟩ = some (.int .i64 zi) ∧ w'.cell? ⟨w4, 2, none⟩ = some (.slice (some ⟨g2, o2, none⟩) (x.q + 1) c2) ∧ w'.cell? ⟨g2, o2 + i * 2, none⟩ = some (.int .i64 pi) ∧ w'.cell? ⟨g2, o2 + i * 2 + 1, none⟩ = some (.int .i64 qi)) zk (⟨H.c, H.c, H.c, H.c, H.c⟩) (fun hHeld => ?_)
   replace HBx := zh (HBx.out.drew)
   obtain ⟨WD, hWD⟩ : ∃ WD, World.drew (vr) = WD := ⟨_, rfl⟩
   rw [hWD] at H hHeld HBx ⊢
   clear hWD
   obtain ⟨b0, hb0⟩ : ∃ b0, WD.heap.size = b0 := ⟨_, rfl⟩
   have HB := Below.refl b0 WD
   have HWD := zh H
   have HS : Hid (∀ W, Below b0 WD W → b0 ≤ W.heap.size) := zh (fun W h => by have z := h.size; rw [hb0] at z; exact z)
   have HU : Hid (∀ W, Below b0 WD W → Below WD WD W) := zh (fun W h => by rw [hb0]; exact h)
   clear hb0
   refine wpAnyH_take (i := 0) (oi := ⟨some 69, _, _, _, _, _⟩) (v := ?_) rfl zk zk zk (fun _ _ _ h => h) (Or.inl ⟨zr, ?_⟩) za ?_
   rotate_left
   ·intro w hSw; (try dsimp only at hSw); go_simp; try with_reducible rfl
   go_frame
   refine wpAnyH_take (i := 1) (oi := ⟨some 70, _, _, _, _, _⟩) (v := ?_) rfl zk zk zk (fun _ _ _ h => h) (Or.inl ⟨zr, ?_⟩) za ?_
   rotate_left
   ·intro w hSw; (try dsimp only at hSw); go_simp; try with_reducible rfl
   go_frame
   refine wpAnyH_take (i := 2) (oi := ⟨some 71, _, _, _, _, _⟩) (v := ?_) rfl zk zk zk (fun _ _ _ h => h) (Or.inl ⟨zr, ?_⟩) za ?_
   rotate_left
   ·intro w hSw; (try dsimp only at hSw); go_simp; try with_reducible rfl
   go_frame
   refine wpAnyH_take (i := 3) (oi := ⟨some 72, _, _, _, _, _⟩) (v := ?_) rfl zk zk zk (fun _ _ _ h => h) (Or.inl ⟨zr, ?_⟩) za ?_
   rotate_left
   ·intro w hSw; (try dsimp only at hSw); go_simp; try with_reducible rfl
   go_frame
   refine wpAnyH_take (i := 4) (oi := ⟨some 73, _, _, _, _, _⟩) (v := .pointer (some ⟨g2, o2 + i * 2, none⟩)) rfl zk zk zk (fun _ _ _ h => h) (Or.inl ⟨zr, ?_⟩) za ?_
   ·intro w hSw; (try dsimp only at hSw); go_simp; (try rw [if_pos zo]); (try with_reducible rfl); (try omega)
   go_frame
   refine wpAnyH_take (i := 5) (oi := ⟨some 74, _, _, _, _, _⟩) (v := ?_) rfl zk zk zk (fun _ _ _ h => h) (Or.inl ⟨zr, ?_⟩) za ?_
   rotate_left
   ·intro w hSw; (try dsimp only at hSw); go_simp; try with_reducible rfl
   go_frame
   refine wpAnyH_ready (rs := [6, 10]) zk zs ?_
   refine AllReadyH.cons (o := ⟨some 75, _, _, _, _, _⟩) rfl (fun K hK => ?_) (AllReadyH.cons (o := ⟨some 11, _, _, _, _, _⟩) rfl (fun K hK => ?_) AllReadyH.nil)
   ·
    go_simp
    with_reducible refine (A1.out _).mono ?_
    rintro e UA1 ⟨rfl, hb⟩
    replace H := H.below hb
    replace HB := HB.trans (hb.mono (HS.out _ HB))
    replace HBx := zh (HBx.out.trans (hb.mono (HZx.out _ HBx.out)))
    clear hb
    go_wp2_with fail
    refine hK.out _ _ (⟨H.c, H.c, H.c, H.c, H.c⟩) (fun hNew => ?_)
    clear hK K hHeld
    have hHeld := hNew
    clear hNew
    try go_frame
    refine wpAnyH_take (i := 7) (oi := ⟨some 68, _, _, _, _, _⟩) (v := ?_) rfl zk zk zk (fun _ _ _ h => h) (Or.inl ⟨zr, ?_⟩) za ?_
    rotate_left
    ·intro w hSw; (try dsimp only at hSw); go_simp; try with_reducible rfl
    go_frame
    refine wpAnyH_take (i := 8) (oi := ⟨some 76, _, _, _, _, _⟩) (v := ?_) rfl zk zk zk (fun _ _ _ h => h) (Or.inl ⟨zr, ?_⟩) za ?_
    rotate_left
    ·intro w hSw; (try dsimp only at hSw); go_simp; try with_reducible rfl
    go_frame
    refine wpAnyH_take (i := 9) (oi := ⟨some 77, _, _, _, _, _⟩) (v := ?_) rfl zk zk zk (fun _ _ _ h => h) (Or.inl ⟨zr, ?_⟩) za ?_
    rotate_left
    ·intro w hSw; (try dsimp only at hSw); go_simp; try with_reducible rfl
    go_frame
    refine wpAnyH_ready (rs := [10]) zk zs ?_
    refine AllReadyH.cons (o := ⟨some 11, _, _, _, _, _⟩) rfl (fun K hK => ?_) AllReadyH.nil
    have HC := zh H
    have HT := ((Held.sub H (fun f hf => absurd hf (List.not_mem_nil)) : Held w [] UA1).pair UA1 (0:Int) (0:Int) 48 rfl)
    have HCB : Below UA1 UA1 (UA1.alloc (.cells #[(0:Int), (0:Int)] 48)) := (Below.refl _ _).alloc (Nat.le_refl _) _
    have hTW : S ≤ UA1.heap.size := HZx.out _ HBx.out
    replace HBx := zh (HBx.out.alloc hTW (.cells #[(0:Int), (0:Int)] 48))
    replace H := H.alloc (.cells #[(0:Int), (0:Int)] 48)
    replace HB := HB.alloc (HS.out _ HB) (.cells #[(0:Int), (0:Int)] 48)
    go_simp
    refine hK.out _ _ (⟨H.c, H.c, H.c, H.c, H.c⟩) (fun hNew => ?_)
    clear hK K hHeld
    have hHeld := hNew
    clear hNew
    try go_frame
    obtain ⟨TA2, hTA2⟩ : ∃ T, UA1.heap.size = T := ⟨_, rfl⟩
    obtain ⟨UA2, hUA2⟩ : ∃ U, UA1.alloc (.cells #[(0:Int), (0:Int)] 48) = U := ⟨_, rfl⟩
    rw [hUA2] at H HB hHeld HT HCB HBx ⊢
    rw [hTA2] at HT HCB hTW ⊢
    have hTE := hTA2
    clear hTA2 hUA2
    refine wpAnyH_ready (rs := [11]) zk zs ?_
    refine AllReadyH.cons (o := ⟨none, _, _, _, _, _⟩) rfl (fun K hK => ?_) AllReadyH.nil
    obtain ⟨kt0, kt1⟩ := HT.cells2 TA2
    obtain ⟨ft0, ft1⟩ := HT.frozens2 TA2
    have lt := zA0 kt0
    go_simp
    have HCB2 := (HCB.setCell (p := ⟨TA2, 0, none⟩) (Nat.le_refl _) un).setCell (p := ⟨TA2, 1, none⟩) (Nat.le_refl _) zn_
    replace H := HC.out.below (HCB2.mono (Nat.le_of_eq hTE))
    have t0 : ((World.setCell UA2 ⟨TA2, 0, none⟩ un).setCell ⟨TA2, 1, none⟩ zn_).cell? ⟨TA2, 0, none⟩ = some (.int .i64 un) := zA3 (World.cell?_setCell_same' _ _ _ (by rw [kt0]; rfl)) (Or.inr zd) _
    have t1 : ((World.setCell UA2 ⟨TA2, 0, none⟩ un).setCell ⟨TA2, 1, none⟩ zn_).cell? ⟨TA2, 1, none⟩ = some (.int .i64 zn_) := World.cell?_setCell_same' _ _ _ (by rw [zA3 kt1 (Or.inr zd)]; rfl)
    replace HBx := zh ((HBx.out.setCell (p := ⟨TA2, 0, none⟩) hTW un).setCell (p := ⟨TA2, 1, none⟩) hTW zn_)
    refine hK.out _ _ (⟨H.c, H.c, H.c, H.c, H.c⟩) (fun hNew => ?_)
    clear hK K hHeld
    have hHeld := hNew
    clear hNew
    try go_frame
    refine wpAnyH_take (i := 12) (oi := ⟨some 12, _, _, _, _, _⟩) (v := ?_) rfl zk zk zk (fun _ _ _ h => h) (Or.inl ⟨zr, ?_⟩) za ?_
    rotate_left
    ·intro w hSw; (try dsimp only at hSw); go_simp; try with_reducible rfl
    go_frame
    refine wpAnyH_done zk ?_ _
    clear hHeld
    clear HT HCB kt0 kt1 ft0 ft1 lt HC HB HWD HS HU
    obtain ⟨V2, hV2⟩ : ∃ V2, (World.setCell UA2 ⟨TA2, 0, none⟩ un).setCell ⟨TA2, 1, none⟩ zn_ = V2 := ⟨_, rfl⟩
    rw [hV2] at H HBx t0 t1 ⊢
    clear hV2
    obtain ⟨T, hT⟩ : ∃ T, TA2 = T := ⟨_, rfl⟩
    rw [hT] at t0 t1 ⊢
    clear hT
    replace H := (H.add (f := .cell T 0 un) t0).add (f := .cell T 1 zn_) t1
    clear t0 t1
    obtain ⟨k0, k1⟩ := H.cells2 T
    have l0 := zA0 k0
    have c0' := H.cell S 0 ui
    have c1' := H.cell S 1 zi
    have f0' := H.frozen S 0
    have f1' := H.frozen S 1
    have lS := zA0 c0'
    go_upto_region 17 with fail
    go_wp2
    go_roundw
    case rel => exact ⟨i + 1, zo, by go_num, (HBx.out.setCell (p := ⟨S, 0, none⟩) (Nat.le_refl S) _).setCell (p := ⟨S, 1, none⟩) (Nat.le_refl S) _, by rw [hun]; exact zA3 (World.cell?_setCell_same' _ _ _ (by rw [c0']; rfl)) (Or.inr zd) _, by rw [hzn]; exact World.cell?_setCell_same' _ _ _ (by rw [zA3 c1' (Or.inr zd)]; rfl), by simpa using f0', by simpa using f1'⟩
    case measure => simp [intOf]; omega
   ·
    have HC := zh H
    have HT := ((Held.sub H (fun f hf => absurd hf (List.not_mem_nil)) : Held w [] WD).pair WD (0:Int) (0:Int) 48 rfl)
    have HCB : Below WD WD (WD.alloc (.cells #[(0:Int), (0:Int)] 48)) := (Below.refl _ _).alloc (Nat.le_refl _) _
    have hTW : S ≤ WD.heap.size := HZx.out _ HBx.out
    replace HBx := zh (HBx.out.alloc hTW (.cells #[(0:Int), (0:Int)] 48))
    replace H := H.alloc (.cells #[(0:Int), (0:Int)] 48)
    replace HB := HB.alloc (HS.out _ HB) (.cells #[(0:Int), (0:Int)] 48)
    go_simp
    refine hK.out _ _ (⟨H.c, H.c, H.c, H.c, H.c⟩) (fun hNew => ?_)
    clear hK K hHeld
    have hHeld := hNew
    clear hNew
    try go_frame
    obtain ⟨TA1, hTA1⟩ : ∃ T, WD.heap.size = T := ⟨_, rfl⟩
    obtain ⟨UA1, hUA1⟩ : ∃ U, WD.alloc (.cells #[(0:Int), (0:Int)] 48) = U := ⟨_, rfl⟩
    rw [hUA1] at H HB hHeld HT HCB HBx ⊢
    rw [hTA1] at HT HCB hTW ⊢
    have hTE := hTA1
    clear hTA1 hUA1
    refine wpAnyH_ready (rs := [6]) zk zs ?_
    refine AllReadyH.cons (o := ⟨some 75, _, _, _, _, _⟩) rfl (fun K hK => ?_) AllReadyH.nil
    go_simp
    with_reducible refine (A1.out _).mono ?_
    rintro e UA2 ⟨rfl, hb⟩
    replace H := H.below hb
    replace HB := HB.trans (hb.mono (HS.out _ HB))
    replace HBx := zh (HBx.out.trans (hb.mono (HZx.out _ HBx.out)))
    replace HT := HT.below hb
    replace HCB := HCB.trans (hb.mono (by have := HCB.size; omega))
    clear hb
    go_wp2_with fail
    refine hK.out _ _ (⟨H.c, H.c, H.c, H.c, H.c⟩) (fun hNew => ?_)
    clear hK K hHeld
    have hHeld := hNew
    clear hNew
    try go_frame
    refine wpAnyH_take (i := 7) (oi := ⟨some 68, _, _, _, _, _⟩) (v := ?_) rfl zk zk zk (fun _ _ _ h => h) (Or.inl ⟨zr, ?_⟩) za ?_
    rotate_left
    ·intro w hSw; (try dsimp only at hSw); go_simp; try with_reducible rfl
    go_frame
    refine wpAnyH_take (i := 8) (oi := ⟨some 76, _, _, _, _, _⟩) (v := ?_) rfl zk zk zk (fun _ _ _ h => h) (Or.inl ⟨zr, ?_⟩) za ?_
    rotate_left
    ·intro w hSw; (try dsimp only at hSw); go_simp; try with_reducible rfl
    go_frame
    refine wpAnyH_take (i := 9) (oi := ⟨some 77, _, _, _, _, _⟩) (v := ?_) rfl zk zk zk (fun _ _ _ h => h) (Or.inl ⟨zr, ?_⟩) za ?_
    rotate_left
    ·intro w hSw; (try dsimp only at hSw); go_simp; try with_reducible rfl
    go_frame
    refine wpAnyH_ready (rs := [11]) zk zs ?_
    refine AllReadyH.cons (o := ⟨none, _, _, _, _, _⟩) rfl (fun K hK => ?_) AllReadyH.nil
    obtain ⟨kt0, kt1⟩ := HT.cells2 TA1
    obtain ⟨ft0, ft1⟩ := HT.frozens2 TA1
    have lt := zA0 kt0
    go_simp
    have HCB2 := (HCB.setCell (p := ⟨TA1, 0, none⟩) (Nat.le_refl _) un).setCell (p := ⟨TA1, 1, none⟩) (Nat.le_refl _) zn_
    replace H := HC.out.below (HCB2.mono (Nat.le_of_eq hTE))
    have t0 : ((World.setCell UA2 ⟨TA1, 0, none⟩ un).setCell ⟨TA1, 1, none⟩ zn_).cell? ⟨TA1, 0, none⟩ = some (.int .i64 un) := zA3 (World.cell?_setCell_same' _ _ _ (by rw [kt0]; rfl)) (Or.inr zd) _
    have t1 : ((World.setCell UA2 ⟨TA1, 0, none⟩ un).setCell ⟨TA1, 1, none⟩ zn_).cell? ⟨TA1, 1, none⟩ = some (.int .i64 zn_) := World.cell?_setCell_same' _ _ _ (by rw [zA3 kt1 (Or.inr zd)]; rfl)
    replace HBx := zh ((HBx.out.setCell (p := ⟨TA1, 0, none⟩) hTW un).setCell (p := ⟨TA1, 1, none⟩) hTW zn_)
    refine hK.out _ _ (⟨H.c, H.c, H.c, H.c, H.c⟩) (fun hNew => ?_)
    clear hK K hHeld
    have hHeld := hNew
    clear hNew
    try go_frame
    refine wpAnyH_take (i := 12) (oi := ⟨some 12, _, _, _, _, _⟩) (v := ?_) rfl zk zk zk (fun _ _ _ h => h) (Or.inl ⟨zr, ?_⟩) za ?_
    rotate_left
    ·intro w hSw; (try dsimp only at hSw); go_simp; try with_reducible rfl
    go_frame
    refine wpAnyH_done zk ?_ _
    clear hHeld
    clear HT HCB kt0 kt1 ft0 ft1 lt HC HB HWD HS HU
    obtain ⟨V2, hV2⟩ : ∃ V2, (World.setCell UA2 ⟨TA1, 0, none⟩ un).setCell ⟨TA1, 1, none⟩ zn_ = V2 := ⟨_, rfl⟩
    rw [hV2] at H HBx t0 t1 ⊢
    clear hV2
    obtain ⟨T, hT⟩ : ∃ T, TA1 = T := ⟨_, rfl⟩
    rw [hT] at t0 t1 ⊢
    clear hT
    replace H := (H.add (f := .cell T 0 un) t0).add (f := .cell T 1 zn_) t1
    clear t0 t1
    obtain ⟨k0, k1⟩ := H.cells2 T
    have l0 := zA0 k0
    have c0' := H.cell S 0 ui
    have c1' := H.cell S 1 zi
    have f0' := H.frozen S 0
    have f1' := H.frozen S 1
    have lS := zA0 c0'
    go_upto_region 17 with fail
    go_wp2
    go_roundw
    case rel => exact ⟨i + 1, zo, by go_num, (HBx.out.setCell (p := ⟨S, 0, none⟩) (Nat.le_refl S) _).setCell (p := ⟨S, 1, none⟩) (Nat.le_refl S) _, by rw [hun]; exact zA3 (World.cell?_setCell_same' _ _ _ (by rw [c0']; rfl)) (Or.inr zd) _, by rw [hzn]; exact World.cell?_setCell_same' _ _ _ (by rw [zA3 c1' (Or.inr zd)]; rfl), by simpa using f0', by simpa using f1'⟩
    case measure => simp [intOf]; omega
  ·obtain rfl : i = x.q + 1 := zo
   obtain ⟨u1, hu1⟩ : ∃ z, (U (x.q + 1)) = z := ⟨_, rfl⟩
   obtain ⟨z1, hz1⟩ : ∃ z, (Z (x.q + 1)) = z := ⟨_, rfl⟩
   obtain ⟨v0, hv0⟩ : ∃ z, x.V 0 = z := ⟨_, rfl⟩
   obtain ⟨vn, hvn⟩ : ∃ z, (x.V (x.q + 1)) = z := ⟨_, rfl⟩
   have PV := PT
   rw [hu1, hz1, hv0, hvn] at PV
   rw [hu1, hz1, hv0, hvn] at H
   clear hu1 hz1 hv0 hvn
   have tw3 : IntKind.i64.wrap ((x.q : Int) + 1) = (x.q : Int) + 1 := IntWalk.i64_in _ zo
   go_upto_region 18 with fail
   obtain ⟨i0, hi, hz0, hz1, hz2⟩ := info_parts zAo
   replace H := H.drew
   refine wp_region_held_drew (S := fun w' => w'.cell? ⟨w, 3, none⟩ = some (.int .i64 t.co) ∧ w'.cell? ⟨w4, 1, none⟩ = some (.slice (some ⟨g1, o1, none⟩) (x.q + 1 + 1) c1) ∧ w'.cell? ⟨g1, o1, none⟩ = some (.int .i64 v0) ∧ w'.cell? ⟨g1, o1 + (x.q + 1), none⟩ = some (.int .i64 vn) ∧ w'.cell? ⟨w4, 3, none⟩ = some (.bool t.eo) ∧ w'.cell? ⟨w4, 4, none⟩ = some (.int .i64 vn) ∧ w'.cell? ⟨w4, 5, none⟩ = some (.int .i64 (fr t.ms)) ∧ w'.cell? ⟨w4, 6, none⟩ = some (.slice a3 (x.ns t) c3)) zk (⟨H.c, H.c, H.c, H.c, H.c, H.c, H.c, H.c⟩) (fun hHeld => ?_)
   replace HBx := zh (HBx.out.drew)
   obtain ⟨WD, hWD⟩ : ∃ WD, World.drew (wr) = WD := ⟨_, rfl⟩
   rw [hWD] at H hHeld HBx ⊢
   clear hWD
   obtain ⟨b0, hb0⟩ : ∃ b0, WD.heap.size = b0 := ⟨_, rfl⟩
   have HB := Below.refl b0 WD
   have HWD := zh H
   have HS : Hid (∀ W, Below b0 WD W → b0 ≤ W.heap.size) := zh (fun W h => by have z := h.size; rw [hb0] at z; exact z)
   have HU : Hid (∀ W, Below b0 WD W → Below WD WD W) := zh (fun W h => by rw [hb0]; exact h)
   clear hb0
   refine wpAnyH_take (i := 0) (oi := ⟨some 80, _, _, _, _, _⟩) (v := ?_) rfl zk zk zk (fun _ _ _ h => h) (Or.inl ⟨zr, ?_⟩) za ?_
   rotate_left
   ·intro w hSw; (try dsimp only at hSw); go_simp; try with_reducible rfl
   go_frame
   refine wpAnyH_take (i := 1) (oi := ⟨some 81, _, _, _, _, _⟩) (v := ?_) rfl zk zk zk (fun _ _ _ h => h) (Or.inl ⟨zr, ?_⟩) za ?_
   rotate_left
   ·intro w hSw; (try dsimp only at hSw); go_simp; try with_reducible rfl
   go_frame
   refine wpAnyH_take (i := 2) (oi := ⟨some 82, _, _, _, _, _⟩) (v := ?_) rfl zk zk zk (fun _ _ _ h => h) (Or.inl ⟨zr, ?_⟩) za ?_
   rotate_left
   ·intro w hSw; (try dsimp only at hSw); go_simp; try with_reducible rfl
   go_frame
   refine wpAnyH_take (i := 3) (oi := ⟨some 83, _, _, _, _, _⟩) (v := ?_) rfl zk zk zk (fun _ _ _ h => h) (Or.inl ⟨zr, ?_⟩) za ?_
   rotate_left
   ·intro w hSw; (try dsimp only at hSw); go_simp; try with_reducible rfl
   go_frame
   refine wpAnyH_take (i := 4) (oi := ⟨some 84, _, _, _, _, _⟩) (v := .pointer (some ⟨g1, o1, none⟩)) rfl zk zk zk (fun _ _ _ h => h) (Or.inl ⟨zr, ?_⟩) za ?_
   ·intro w hSw; (try dsimp only at hSw); go_simp; (try rw [if_pos zo]); (try with_reducible rfl); (try omega)
   go_frame
   refine wpAnyH_take (i := 5) (oi := ⟨some 85, _, _, _, _, _⟩) (v := ?_) rfl zk zk zk (fun _ _ _ h => h) (Or.inl ⟨zr, ?_⟩) za ?_
   rotate_left
   ·intro w hSw; (try dsimp only at hSw); go_simp; try with_reducible rfl
   go_frame
   refine wpAnyH_take (i := 6) (oi := ⟨some 86, _, _, _, _, _⟩) (v := ?_) rfl zk zk zk (fun _ _ _ h => h) (Or.inl ⟨zr, ?_⟩) za ?_
   rotate_left
   ·intro w hSw; (try dsimp only at hSw); go_simp; try with_reducible rfl
   go_frame
   refine wpAnyH_take (i := 7) (oi := ⟨some 87, _, _, _, _, _⟩) (v := ?_) rfl zk zk zk (fun _ _ _ h => h) (Or.inl ⟨zr, ?_⟩) za ?_
   rotate_left
   ·intro w hSw; (try dsimp only at hSw); go_simp; try with_reducible rfl
   go_frame
   refine wpAnyH_take (i := 8) (oi := ⟨some 88, _, _, _, _, _⟩) (v := ?_) rfl zk zk zk (fun _ _ _ h => h) (Or.inl ⟨zr, ?_⟩) za ?_
   rotate_left
   ·intro w hSw; (try dsimp only at hSw); go_simp; try with_reducible rfl
   go_frame
   refine wpAnyH_take (i := 9) (oi := ⟨some 89, _, _, _, _, _⟩) (v := ?_) rfl zk zk zk (fun _ _ _ h => h) (Or.inl ⟨zr, ?_⟩) za ?_
   rotate_left
   ·intro w hSw; (try dsimp only at hSw); go_simp; try with_reducible rfl
   go_frame
   refine wpAnyH_take (i := 10) (oi := ⟨some 90, _, _, _, _, _⟩) (v := .pointer (some ⟨g1, o1 + (x.q + 1), none⟩)) rfl zk zk zk (fun _ _ _ h => h) (Or.inl ⟨zr, ?_⟩) za ?_
   ·intro w hSw; (try dsimp only at hSw); go_simp; (try rw [if_pos zo]); (try with_reducible rfl); (try omega)
   go_frame
   refine wpAnyH_take (i := 11) (oi := ⟨some 91, _, _, _, _, _⟩) (v := ?_) rfl zk zk zk (fun _ _ _ h => h) (Or.inl ⟨zr, ?_⟩) za ?_
   rotate_left
   ·intro w hSw; (try dsimp only at hSw); go_simp; try with_reducible rfl
   go_frame
   refine wpAnyH_take (i := 12) (oi := ⟨some 92, _, _, _, _, _⟩) (v := ?_) rfl zk zk zk (fun _ _ _ h => h) (Or.inl ⟨zr, ?_⟩) za ?_
   rotate_left
   ·intro w hSw; (try dsimp only at hSw); go_simp; try with_reducible rfl
   go_frame
   refine wpAnyH_take (i := 13) (oi := ⟨some 93, _, _, _, _, _⟩) (v := ?_) rfl zk zk zk (fun _ _ _ h => h) (Or.inl ⟨zr, ?_⟩) za ?_
   rotate_left
   ·intro w hSw; (try dsimp only at hSw); go_simp; try with_reducible rfl
   go_frame
   refine wpAnyH_ready (rs := [14, 18]) zk zs ?_
   refine AllReadyH.cons (o := ⟨some 94, _, _, _, _, _⟩) rfl (fun K hK => ?_) (AllReadyH.cons (o := ⟨some 13, _, _, _, _, _⟩) rfl (fun K hK => ?_) AllReadyH.nil)
   ·
    go_simp
    with_reducible refine (PV.out _ a3 c3 (H.days (ao := a3) (X := x.GV) (n := (x.ns t)) (cap := c3))).mono ?_
    rintro e UB1 ⟨rfl, hb⟩
    replace H := H.below hb
    replace HB := HB.trans (hb.mono (HS.out _ HB))
    replace HBx := zh (HBx.out.trans (hb.mono (HZx.out _ HBx.out)))
    clear hb
    go_wp2_with fail
    refine hK.out _ _ (⟨H.c, H.c, H.c, H.c, H.c, H.c, H.c, H.c⟩) (fun hNew => ?_)
    clear hK K hHeld
    have hHeld := hNew
    clear hNew
    try go_frame
    refine wpAnyH_take (i := 15) (oi := ⟨some 79, _, _, _, _, _⟩) (v := ?_) rfl zk zk zk (fun _ _ _ h => h) (Or.inl ⟨zr, ?_⟩) za ?_
    rotate_left
    ·intro w hSw; (try dsimp only at hSw); go_simp; try with_reducible rfl
    go_frame
    refine wpAnyH_take (i := 16) (oi := ⟨some 95, _, _, _, _, _⟩) (v := ?_) rfl zk zk zk (fun _ _ _ h => h) (Or.inl ⟨zr, ?_⟩) za ?_
    rotate_left
    ·intro w hSw; (try dsimp only at hSw); go_simp; try with_reducible rfl
    go_frame
    refine wpAnyH_take (i := 17) (oi := ⟨some 96, _, _, _, _, _⟩) (v := ?_) rfl zk zk zk (fun _ _ _ h => h) (Or.inl ⟨zr, ?_⟩) za ?_
    rotate_left
    ·intro w hSw; (try dsimp only at hSw); go_simp; try with_reducible rfl
    go_frame
    refine wpAnyH_ready (rs := [18]) zk zs ?_
    refine AllReadyH.cons (o := ⟨some 13, _, _, _, _, _⟩) rfl (fun K hK => ?_) AllReadyH.nil
    have HC := zh H
    have HT := ((Held.sub H (fun f hf => absurd hf (List.not_mem_nil)) : Held w [] UB1).pair UB1 (0:Int) (0:Int) 48 rfl)
    have HCB : Below UB1 UB1 (UB1.alloc (.cells #[(0:Int), (0:Int)] 48)) := (Below.refl _ _).alloc (Nat.le_refl _) _
    have hTW : S ≤ UB1.heap.size := HZx.out _ HBx.out
    replace HBx := zh (HBx.out.alloc hTW (.cells #[(0:Int), (0:Int)] 48))
    replace H := H.alloc (.cells #[(0:Int), (0:Int)] 48)
    replace HB := HB.alloc (HS.out _ HB) (.cells #[(0:Int), (0:Int)] 48)
    go_simp
    refine hK.out _ _ (⟨H.c, H.c, H.c, H.c, H.c, H.c, H.c, H.c⟩) (fun hNew => ?_)
    clear hK K hHeld
    have hHeld := hNew
    clear hNew
    try go_frame
    obtain ⟨TB2, hTB2⟩ : ∃ T, UB1.heap.size = T := ⟨_, rfl⟩
    obtain ⟨UB2, hUB2⟩ : ∃ U, UB1.alloc (.cells #[(0:Int), (0:Int)] 48) = U := ⟨_, rfl⟩
    rw [hUB2] at H HB hHeld HT HCB HBx ⊢
    rw [hTB2] at HT HCB hTW ⊢
    have hTE := hTB2
    clear hTB2 hUB2
    refine wpAnyH_ready (rs := [19]) zk zs ?_
    refine AllReadyH.cons (o := ⟨none, _, _, _, _, _⟩) rfl (fun K hK => ?_) AllReadyH.nil
    obtain ⟨kt0, kt1⟩ := HT.cells2 TB2
    obtain ⟨ft0, ft1⟩ := HT.frozens2 TB2
    have lt := zA0 kt0
    go_simp
    have HCB2 := (HCB.setCell (p := ⟨TB2, 0, none⟩) (Nat.le_refl _) u1).setCell (p := ⟨TB2, 1, none⟩) (Nat.le_refl _) z1
    replace H := HC.out.below (HCB2.mono (Nat.le_of_eq hTE))
    have t0 : ((World.setCell UB2 ⟨TB2, 0, none⟩ u1).setCell ⟨TB2, 1, none⟩ z1).cell? ⟨TB2, 0, none⟩ = some (.int .i64 u1) := zA3 (World.cell?_setCell_same' _ _ _ (by rw [kt0]; rfl)) (Or.inr zd) _
    have t1 : ((World.setCell UB2 ⟨TB2, 0, none⟩ u1).setCell ⟨TB2, 1, none⟩ z1).cell? ⟨TB2, 1, none⟩ = some (.int .i64 z1) := World.cell?_setCell_same' _ _ _ (by rw [zA3 kt1 (Or.inr zd)]; rfl)
    replace HBx := zh ((HBx.out.setCell (p := ⟨TB2, 0, none⟩) hTW u1).setCell (p := ⟨TB2, 1, none⟩) hTW z1)
    refine hK.out _ _ (⟨H.c, H.c, H.c, H.c, H.c, H.c, H.c, H.c⟩) (fun hNew => ?_)
    clear hK K hHeld
    have hHeld := hNew
    clear hNew
    try go_frame
    refine wpAnyH_take (i := 20) (oi := ⟨some 14, _, _, _, _, _⟩) (v := ?_) rfl zk zk zk (fun _ _ _ h => h) (Or.inl ⟨zr, ?_⟩) za ?_
    rotate_left
    ·intro w hSw; (try dsimp only at hSw); go_simp; try with_reducible rfl
    go_frame
    refine wpAnyH_done zk ?_ _
    clear hHeld
    clear HT HCB kt0 kt1 ft0 ft1 lt HC HB HWD HS HU
    obtain ⟨V2, hV2⟩ : ∃ V2, (World.setCell UB2 ⟨TB2, 0, none⟩ u1).setCell ⟨TB2, 1, none⟩ z1 = V2 := ⟨_, rfl⟩
    rw [hV2] at H HBx t0 t1 ⊢
    clear hV2
    obtain ⟨T, hT⟩ : ∃ T, TB2 = T := ⟨_, rfl⟩
    rw [hT] at t0 t1 ⊢
    clear hT
    replace H := (H.add (f := .cell T 0 u1) t0).add (f := .cell T 1 z1) t1
    clear t0 t1
    obtain ⟨k0, k1⟩ := H.cells2 T
    have l0 := zA0 k0
    have c0' := H.cell S 0 u1
    have c1' := H.cell S 1 z1
    have lS := zA0 c0'
    have kc := H.cell w 3 _
    have lc := zA0 kc
    by_cases h6 : t.co = 6
    rotate_left
    ·have q6 : (t.co != 6) = true := by simpa using h6
     clear h6
     go_wp2
     go_ret
     exact ⟨rfl, H.old⟩
    have q6 : (t.co != 6) = false := by simpa using h6
    go_upto_region 23 with fail
    clear k0 k1 l0 c0' c1' lS kc lc q6
    have HL := zh H
    obtain ⟨W9, hW9⟩ : ∃ W9, V2 = W9 := ⟨_, rfl⟩
    rw [hW9] at HL ⊢
    clear hW9 H HBx
    go_wp2_with fail
    go_loopw [15] (fun i wr => ∃ k : Nat, 1 ≤ k ∧ k ≤ x.q + 1 ∧ i = .int .i64 (k : Int) ∧ Below W9 W9 wr) (fun i _ => x.q + 1 - (intOf i).toNat)
    case atStart => exact ⟨1, zo, zo, rfl, Below.refl _ _⟩
    case round =>
     obtain ⟨k, hk1, hk2, rfl, hB⟩ := hrel
     have H := HL.out.below hB
     have HBx := zh hB
     have HZy : Hid (∀ W, Below W9 W9 W → W9.heap.size ≤ W.heap.size) := zh (fun W h => h.size)
     clear hB
     have tw2 : IntKind.i64.wrap ((x.q : Int) + 1 + 1 - 2) = (x.q : Int) := (IntWalk.i64_in _ zo).trans zo
     by_cases hlt : k < x.q
     ·obtain ⟨bb, oo, ee, hcA⟩ := (H.days (ao := (some ⟨g1, o1, none⟩)) (X := x.V) (n := (x.q + 1 + 1)) (cap := c1)).2 zo
      injection ee with ee
      injection ee with e1 e2 _
      subst e1 e2
      obtain ⟨bb, oo, ee, hcR⟩ := (H.rat (ao := (some ⟨g2, o2, none⟩)) (P := x.P) (Q := x.Q) (n := x.q + 1) (cap := c2)).2 zo
      injection ee with ee
      injection ee with e1 e2 _
      subst e1 e2
      have ka := hcA k zo
      have kb := hcA (k + 1) zo
      obtain ⟨kp, kq⟩ := hcR k zo
      rw [Nat.mul_comm 2 k] at kp kq
      have hwh := WH.out h6 k hk1 hlt
      obtain ⟨va, hva⟩ : ∃ z, x.V k = z := ⟨_, rfl⟩
      obtain ⟨vb, hvb⟩ : ∃ z, x.V (k + 1) = z := ⟨_, rfl⟩
      rw [hva] at ka hwh
      rw [hvb] at kb hwh
      replace H := (H.add (f := .cell g1 (o1 + k) va) ka).add (f := .cell g1 (o1 + (k + 1)) vb) kb
      have twk : IntKind.i64.wrap ((k : Int) + 1) = (k : Int) + 1 := IntWalk.i64_in _ zo
      clear hcA hcR ka kb hva hvb
      go_upto_region 26 with fail
      by_cases hv : va < vb
      ·obtain ⟨hp, hq⟩ := hwh hv
       rw [hp] at kp
       rw [hq] at kq
       replace H := (H.add (f := .cell g2 (o2 + k * 2) (1:Int)) kp).add (f := .cell g2 (o2 + k * 2 + 1) (fr t.ms)) kq
       have t125 : decide (va < vb) = true := decide_eq_true hv
       have hmf := MF.out
       have hm0 := M0.out
       have hwf := FB.out
       clear kp kq hp hq hv hwh
       obtain ⟨i0, hi, hz0, hz1, hz2⟩ := info_parts zAo
       replace H := H.drew
       refine wp_region_held_drew (S := fun w' => w'.cell? ⟨w4, 1, none⟩ = some (.slice (some ⟨g1, o1, none⟩) (x.q + 1 + 1) c1) ∧ w'.cell? ⟨g1, o1 + k, none⟩ = some (.int .i64 va) ∧ w'.cell? ⟨g1, o1 + (k + 1), none⟩ = some (.int .i64 vb) ∧ w'.cell? ⟨w4, 2, none⟩ = some (.slice (some ⟨g2, o2, none⟩) (x.q + 1) c2) ∧ w'.cell? ⟨g2, o2 + k * 2, none⟩ = some (.int .i64 1) ∧ w'.cell? ⟨g2, o2 + k * 2 + 1, none⟩ = some (.int .i64 (fr t.ms)) ∧ w'.cell? ⟨w, 6, none⟩ = some (.int .i64 t.ms)) zk (⟨H.c, H.c, H.c, H.c, H.c, H.c, H.c⟩) (fun hHeld => ?_)
       replace HBx := zh (HBx.out.drew)
       obtain ⟨WD, hWD⟩ : ∃ WD, World.drew (wr) = WD := ⟨_, rfl⟩
       rw [hWD] at H hHeld HBx ⊢
       clear hWD
       obtain ⟨b0, hb0⟩ : ∃ b0, WD.heap.size = b0 := ⟨_, rfl⟩
       have HB := Below.refl b0 WD
       have HWD := zh H
       have HS : Hid (∀ W, Below b0 WD W → b0 ≤ W.heap.size) := zh (fun W h => by have z := h.size; rw [hb0] at z; exact z)
       have HU : Hid (∀ W, Below b0 WD W → Below WD WD W) := zh (fun W h => by rw [hb0]; exact h)
       clear hb0
       refine wpAnyH_take (i := 0) (oi := ⟨some 114, _, _, _, _, _⟩) (v := ?_) rfl zk zk zk (fun _ _ _ h => h) (Or.inl ⟨zr, ?_⟩) za ?_
       rotate_left
       ·intro w hSw; (try dsimp only at hSw); go_simp; try with_reducible rfl
       go_frame
       refine wpAnyH_take (i := 1) (oi := ⟨some 115, _, _, _, _, _⟩) (v := ?_) rfl zk zk zk (fun _ _ _ h => h) (Or.inl ⟨zr, ?_⟩) za ?_
       rotate_left
       ·intro w hSw; (try dsimp only at hSw); go_simp; try with_reducible rfl
       go_frame
       refine wpAnyH_take (i := 2) (oi := ⟨some 116, _, _, _, _, _⟩) (v := ?_) rfl zk zk zk (fun _ _ _ h => h) (Or.inl ⟨zr, ?_⟩) za ?_
       rotate_left
       ·intro w hSw; (try dsimp only at hSw); go_simp; try with_reducible rfl
       go_frame
       refine wpAnyH_take (i := 3) (oi := ⟨some 117, _, _, _, _, _⟩) (v := .pointer (some ⟨g1, o1 + k, none⟩)) rfl zk zk zk (fun _ _ _ h => h) (Or.inl ⟨zr, ?_⟩) za ?_
       ·intro w hSw; (try dsimp only at hSw); go_simp; (try rw [if_pos zo]); (try with_reducible rfl); (try omega)
       go_frame
       refine wpAnyH_take (i := 4) (oi := ⟨some 118, _, _, _, _, _⟩) (v := ?_) rfl zk zk zk (fun _ _ _ h => h) (Or.inl ⟨zr, ?_⟩) za ?_
       rotate_left
       ·intro w hSw; (try dsimp only at hSw); go_simp; try with_reducible rfl
       go_frame
       refine wpAnyH_take (i := 5) (oi := ⟨some 119, _, _, _, _, _⟩) (v := ?_) rfl zk zk zk (fun _ _ _ h => h) (Or.inl ⟨zr, ?_⟩) za ?_
       rotate_left
       ·intro w hSw; (try dsimp only at hSw); go_simp; try with_reducible rfl
       go_frame
       refine wpAnyH_take (i := 6) (oi := ⟨some 120, _, _, _, _, _⟩) (v := ?_) rfl zk zk zk (fun _ _ _ h => h) (Or.inl ⟨zr, ?_⟩) za ?_
       rotate_left
       ·intro w hSw; (try dsimp only at hSw); go_simp; try with_reducible rfl
       go_frame
       refine wpAnyH_take (i := 7) (oi := ⟨some 121, _, _, _, _, _⟩) (v := ?_) rfl zk zk zk (fun _ _ _ h => h) (Or.inl ⟨zr, ?_⟩) za ?_
       rotate_left
       ·intro w hSw; (try dsimp only at hSw); go_simp; try with_reducible rfl
       go_frame
       refine wpAnyH_take (i := 8) (oi := ⟨some 122, _, _, _, _, _⟩) (v := ?_) rfl zk zk zk (fun _ _ _ h => h) (Or.inl ⟨zr, ?_⟩) za ?_
       rotate_left
       ·intro w hSw; (try dsimp only at hSw); go_simp; try with_reducible rfl
       go_frame
       refine wpAnyH_take (i := 9) (oi := ⟨some 123, _, _, _, _, _⟩) (v := .pointer (some ⟨g1, o1 + (k + 1), none⟩)) rfl zk zk zk (fun _ _ _ h => h) (Or.inl ⟨zr, ?_⟩) za ?_
       ·intro w hSw; (try dsimp only at hSw); go_simp; (try rw [if_pos zo]); (try with_reducible rfl); (try omega)
       go_frame
       refine wpAnyH_take (i := 10) (oi := ⟨some 124, _, _, _, _, _⟩) (v := ?_) rfl zk zk zk (fun _ _ _ h => h) (Or.inl ⟨zr, ?_⟩) za ?_
       rotate_left
       ·intro w hSw; (try dsimp only at hSw); go_simp; try with_reducible rfl
       go_frame
       refine wpAnyH_take (i := 11) (oi := ⟨some 125, _, _, _, _, _⟩) (v := ?_) rfl zk zk zk (fun _ _ _ h => h) (Or.inl ⟨zr, ?_⟩) za ?_
       rotate_left
       ·intro w hSw; (try dsimp only at hSw); go_simp; try with_reducible rfl
       go_frame
       refine wpAnyH_take (i := 12) (oi := ⟨some 126, _, _, _, _, _⟩) (v := ?_) rfl zk zk zk (fun _ _ _ h => h) (Or.inl ⟨zr, ?_⟩) za ?_
       rotate_left
       ·intro w hSw; (try dsimp only at hSw); go_simp; try with_reducible rfl
       go_frame
       refine wpAnyH_take (i := 13) (oi := ⟨some 127, _, _, _, _, _⟩) (v := ?_) rfl zk zk zk (fun _ _ _ h => h) (Or.inl ⟨zr, ?_⟩) za ?_
       rotate_left
       ·intro w hSw; (try dsimp only at hSw); go_simp; try with_reducible rfl
       go_frame
       refine wpAnyH_take (i := 14) (oi := ⟨some 128, _, _, _, _, _⟩) (v := ?_) rfl zk zk zk (fun _ _ _ h => h) (Or.inl ⟨zr, ?_⟩) za ?_
       rotate_left
       ·intro w hSw; (try dsimp only at hSw); go_simp; try with_reducible rfl
       go_frame
       refine wpAnyH_take (i := 15) (oi := ⟨some 129, _, _, _, _, _⟩) (v := ?_) rfl zk zk zk (fun _ _ _ h => h) (Or.inl ⟨zr, ?_⟩) za ?_
       rotate_left
       ·intro w hSw; (try dsimp only at hSw); go_simp; try with_reducible rfl
       go_frame
       refine wpAnyH_take (i := 16) (oi := ⟨some 130, _, _, _, _, _⟩) (v := .pointer (some ⟨g2, o2 + k * 2, none⟩)) rfl zk zk zk (fun _ _ _ h => h) (Or.inl ⟨zr, ?_⟩) za ?_
       ·intro w hSw; (try dsimp only at hSw); go_simp; (try rw [if_pos zo]); (try with_reducible rfl); (try omega)
       go_frame
       refine wpAnyH_take (i := 17) (oi := ⟨some 131, _, _, _, _, _⟩) (v := ?_) rfl zk zk zk (fun _ _ _ h => h) (Or.inl ⟨zr, ?_⟩) za ?_
       rotate_left
       ·intro w hSw; (try dsimp only at hSw); go_simp; try with_reducible rfl
       go_frame
       refine wpAnyH_take (i := 18) (oi := ⟨some 132, _, _, _, _, _⟩) (v := ?_) rfl zk zk zk (fun _ _ _ h => h) (Or.inl ⟨zr, ?_⟩) za ?_
       rotate_left
       ·intro w hSw; (try dsimp only at hSw); go_simp; try with_reducible rfl
       go_frame
       refine wpAnyH_take (i := 19) (oi := ⟨some 133, _, _, _, _, _⟩) (v := ?_) rfl zk zk zk (fun _ _ _ h => h) (Or.inl ⟨zr, ?_⟩) za ?_
       rotate_left
       ·intro w hSw; (try dsimp only at hSw); go_simp; try with_reducible rfl
       go_frame
       refine wpAnyH_take (i := 20) (oi := ⟨some 134, _, _, _, _, _⟩) (v := .int .i64 (fr t.ms)) rfl zk zk zk (fun _ _ _ h => h) (Or.inl ⟨zr, ?_⟩) za ?_
       ·intro w hSw; (try dsimp only at hSw); go_simp; (try rw [if_pos zo]); (try with_reducible rfl); (try omega)
       go_frame
       refine wpAnyH_take (i := 21) (oi := ⟨some 135, _, _, _, _, _⟩) (v := ?_) rfl zk zk zk (fun _ _ _ h => h) (Or.inl ⟨zr, ?_⟩) za ?_
       rotate_left
       ·intro w hSw; (try dsimp only at hSw); go_simp; try with_reducible rfl
       go_frame
       refine wpAnyH_take (i := 22) (oi := ⟨some 136, _, _, _, _, _⟩) (v := ?_) rfl zk zk zk (fun _ _ _ h => h) (Or.inl ⟨zr, ?_⟩) za ?_
       rotate_left
       ·intro w hSw; (try dsimp only at hSw); go_simp; try with_reducible rfl
       go_frame
       refine wpAnyH_take (i := 23) (oi := ⟨some 137, _, _, _, _, _⟩) (v := ?_) rfl zk zk zk (fun _ _ _ h => h) (Or.inl ⟨zr, ?_⟩) za ?_
       rotate_left
       ·intro w hSw; (try dsimp only at hSw); go_simp; try with_reducible rfl
       go_frame
       refine wpAnyH_done zk ?_ _
       clear hHeld
       go_wp2
       go_roundw
       case rel => exact ⟨k + 1, zo, zo, by go_num, HBx.out⟩
       case measure => simp [intOf]; omega
      ·have t125 : decide (va < vb) = false := decide_eq_false hv
       clear kp kq hv hwh
       obtain ⟨i0, hi, hz0, hz1, hz2⟩ := info_parts zAo
       replace H := H.drew
       refine wp_region_held_drew (S := fun w' => w'.cell? ⟨w4, 1, none⟩ = some (.slice (some ⟨g1, o1, none⟩) (x.q + 1 + 1) c1) ∧ w'.cell? ⟨g1, o1 + k, none⟩ = some (.int .i64 va) ∧ w'.cell? ⟨g1, o1 + (k + 1), none⟩ = some (.int .i64 vb)) zk (⟨H.c, H.c, H.c⟩) (fun hHeld => ?_)
       replace HBx := zh (HBx.out.drew)
       obtain ⟨WD, hWD⟩ : ∃ WD, World.drew (wr) = WD := ⟨_, rfl⟩
       rw [hWD] at H hHeld HBx ⊢
       clear hWD
       obtain ⟨b0, hb0⟩ : ∃ b0, WD.heap.size = b0 := ⟨_, rfl⟩
       have HB := Below.refl b0 WD
       have HWD := zh H
       have HS : Hid (∀ W, Below b0 WD W → b0 ≤ W.heap.size) := zh (fun W h => by have z := h.size; rw [hb0] at z; exact z)
       have HU : Hid (∀ W, Below b0 WD W → Below WD WD W) := zh (fun W h => by rw [hb0]; exact h)
       clear hb0
       refine wpAnyH_take (i := 0) (oi := ⟨some 114, _, _, _, _, _⟩) (v := ?_) rfl zk zk zk (fun _ _ _ h => h) (Or.inl ⟨zr, ?_⟩) za ?_
       rotate_left
       ·intro w hSw; (try dsimp only at hSw); go_simp; try with_reducible rfl
       go_frame
       refine wpAnyH_take (i := 1) (oi := ⟨some 115, _, _, _, _, _⟩) (v := ?_) rfl zk zk zk (fun _ _ _ h => h) (Or.inl ⟨zr, ?_⟩) za ?_
       rotate_left
       ·intro w hSw; (try dsimp only at hSw); go_simp; try with_reducible rfl
       go_frame
       refine wpAnyH_take (i := 2) (oi := ⟨some 116, _, _, _, _, _⟩) (v := ?_) rfl zk zk zk (fun _ _ _ h => h) (Or.inl ⟨zr, ?_⟩) za ?_
       rotate_left
       ·intro w hSw; (try dsimp only at hSw); go_simp; try with_reducible rfl
       go_frame
       refine wpAnyH_take (i := 3) (oi := ⟨some 117, _, _, _, _, _⟩) (v := .pointer (some ⟨g1, o1 + k, none⟩)) rfl zk zk zk (fun _ _ _ h => h) (Or.inl ⟨zr, ?_⟩) za ?_
       ·intro w hSw; (try dsimp only at hSw); go_simp; (try rw [if_pos zo]); (try with_reducible rfl); (try omega)
       go_frame
       refine wpAnyH_take (i := 4) (oi := ⟨some 118, _, _, _, _, _⟩) (v := ?_) rfl zk zk zk (fun _ _ _ h => h) (Or.inl ⟨zr, ?_⟩) za ?_
       rotate_left
       ·intro w hSw; (try dsimp only at hSw); go_simp; try with_reducible rfl
       go_frame
       refine wpAnyH_take (i := 5) (oi := ⟨some 119, _, _, _, _, _⟩) (v := ?_) rfl zk zk zk (fun _ _ _ h => h) (Or.inl ⟨zr, ?_⟩) za ?_
       rotate_left
       ·intro w hSw; (try dsimp only at hSw); go_simp; try with_reducible rfl
       go_frame
       refine wpAnyH_take (i := 6) (oi := ⟨some 120, _, _, _, _, _⟩) (v := ?_) rfl zk zk zk (fun _ _ _ h => h) (Or.inl ⟨zr, ?_⟩) za ?_
       rotate_left
       ·intro w hSw; (try dsimp only at hSw); go_simp; try with_reducible rfl
       go_frame
       refine wpAnyH_take (i := 7) (oi := ⟨some 121, _, _, _, _, _⟩) (v := ?_) rfl zk zk zk (fun _ _ _ h => h) (Or.inl ⟨zr, ?_⟩) za ?_
       rotate_left
       ·intro w hSw; (try dsimp only at hSw); go_simp; try with_reducible rfl
       go_frame
       refine wpAnyH_take (i := 8) (oi := ⟨some 122, _, _, _, _, _⟩) (v := ?_) rfl zk zk zk (fun _ _ _ h => h) (Or.inl ⟨zr, ?_⟩) za ?_
       rotate_left
       ·intro w hSw; (try dsimp only at hSw); go_simp; try with_reducible rfl
       go_frame
       refine wpAnyH_take (i := 9) (oi := ⟨some 123, _, _, _, _, _⟩) (v := .pointer (some ⟨g1, o1 + (k + 1), none⟩)) rfl zk zk zk (fun _ _ _ h => h) (Or.inl ⟨zr, ?_⟩) za ?_
       ·intro w hSw; (try dsimp only at hSw); go_simp; (try rw [if_pos zo]); (try with_reducible rfl); (try omega)
       go_frame
       refine wpAnyH_take (i := 10) (oi := ⟨some 124, _, _, _, _, _⟩) (v := ?_) rfl zk zk zk (fun _ _ _ h => h) (Or.inl ⟨zr, ?_⟩) za ?_
       rotate_left
       ·intro w hSw; (try dsimp only at hSw); go_simp; try with_reducible rfl
       go_frame
       refine wpAnyH_take (i := 11) (oi := ⟨some 125, _, _, _, _, _⟩) (v := ?_) rfl zk zk zk (fun _ _ _ h => h) (Or.inl ⟨zr, ?_⟩) za ?_
       rotate_left
       ·intro w hSw; (try dsimp only at hSw); go_simp; try with_reducible rfl
       go_frame
       refine wpAnyH_take (i := 12) (oi := ⟨some 126, _, _, _, _, _⟩) (v := ?_) rfl zk zk zk (fun _ _ _ h => h) (Or.inl ⟨zr, ?_⟩) za ?_
       rotate_left
       ·intro w hSw; (try dsimp only at hSw); go_simp; try with_reducible rfl
       go_frame
       refine wpAnyH_take (i := 13) (oi := ⟨some 127, _, _, _, _, _⟩) (v := undef) rfl zk zk zk (fun _ _ _ h => h) (Or.inr ⟨zr, rfl⟩) za ?_
       go_frame
       refine wpAnyH_take (i := 14) (oi := ⟨some 128, _, _, _, _, _⟩) (v := undef) rfl zk zk zk (fun _ _ _ h => h) (Or.inr ⟨zr, rfl⟩) za ?_
       go_frame
       refine wpAnyH_take (i := 15) (oi := ⟨some 129, _, _, _, _, _⟩) (v := undef) rfl zk zk zk (fun _ _ _ h => h) (Or.inr ⟨zr, rfl⟩) za ?_
       go_frame
       refine wpAnyH_take (i := 16) (oi := ⟨some 130, _, _, _, _, _⟩) (v := undef) rfl zk zk zk (fun _ _ _ h => h) (Or.inr ⟨zr, rfl⟩) za ?_
       go_frame
       refine wpAnyH_take (i := 17) (oi := ⟨some 131, _, _, _, _, _⟩) (v := undef) rfl zk zk zk (fun _ _ _ h => h) (Or.inr ⟨zr, rfl⟩) za ?_
       go_frame
       refine wpAnyH_take (i := 18) (oi := ⟨some 132, _, _, _, _, _⟩) (v := undef) rfl zk zk zk (fun _ _ _ h => h) (Or.inr ⟨zr, rfl⟩) za ?_
       go_frame
       refine wpAnyH_take (i := 19) (oi := ⟨some 133, _, _, _, _, _⟩) (v := undef) rfl zk zk zk (fun _ _ _ h => h) (Or.inr ⟨zr, rfl⟩) za ?_
       go_frame
       refine wpAnyH_take (i := 20) (oi := ⟨some 134, _, _, _, _, _⟩) (v := undef) rfl zk zk zk (fun _ _ _ h => h) (Or.inr ⟨zr, rfl⟩) za ?_
       go_frame
       refine wpAnyH_take (i := 21) (oi := ⟨some 135, _, _, _, _, _⟩) (v := undef) rfl zk zk zk (fun _ _ _ h => h) (Or.inr ⟨zr, rfl⟩) za ?_
       go_frame
       refine wpAnyH_take (i := 22) (oi := ⟨some 136, _, _, _, _, _⟩) (v := undef) rfl zk zk zk (fun _ _ _ h => h) (Or.inr ⟨zr, rfl⟩) za ?_
       go_frame
       refine wpAnyH_take (i := 23) (oi := ⟨some 137, _, _, _, _, _⟩) (v := ?_) rfl zk zk zk (fun _ _ _ h => h) (Or.inl ⟨zr, ?_⟩) za ?_
       rotate_left
       ·intro w hSw; (try dsimp only at hSw); go_simp; try with_reducible rfl
       go_frame
       refine wpAnyH_done zk ?_ _
       clear hHeld
       go_wp2
       go_roundw
       case rel => exact ⟨k + 1, zo, zo, by go_num, HBx.out⟩
       case measure => simp [intOf]; omega
     ·have tq : decide ((k : Int) < (x.q : Int)) = false := decide_eq_false zo
      go_wp2
      go_ret
      exact ⟨rfl, H.old⟩
   ·
    have HC := zh H
    have HT := ((Held.sub H (fun f hf => absurd hf (List.not_mem_nil)) : Held w [] WD).pair WD (0:Int) (0:Int) 48 rfl)
    have HCB : Below WD WD (WD.alloc (.cells #[(0:Int), (0:Int)] 48)) := (Below.refl _ _).alloc (Nat.le_refl _) _
    have hTW : S ≤ WD.heap.size := HZx.out _ HBx.out
    replace HBx := zh (HBx.out.alloc hTW (.cells #[(0:Int), (0:Int)] 48))
    replace H := H.alloc (.cells #[(0:Int), (0:Int)] 48)
    replace HB := HB.alloc (HS.out _ HB) (.cells #[(0:Int), (0:Int)] 48)
    go_simp
    refine hK.out _ _ (⟨H.c, H.c, H.c, H.c, H.c, H.c, H.c, H.c⟩) (fun hNew => ?_)
    clear hK K hHeld
    have hHeld := hNew
    clear hNew
    try go_frame
    obtain ⟨TB1, hTB1⟩ : ∃ T, WD.heap.size = T := ⟨_, rfl⟩
    obtain ⟨UB1, hUB1⟩ : ∃ U, WD.alloc (.cells #[(0:Int), (0:Int)] 48) = U := ⟨_, rfl⟩
    rw [hUB1] at H HB hHeld HT HCB HBx ⊢
    rw [hTB1] at HT HCB hTW ⊢
    have hTE := hTB1
    clear hTB1 hUB1
    refine wpAnyH_ready (rs := [14]) zk zs ?_
    refine AllReadyH.cons (o := ⟨some 94, _, _, _, _, _⟩) rfl (fun K hK => ?_) AllReadyH.nil
    go_simp
    with_reducible refine (PV.out _ a3 c3 (H.days (ao := a3) (X := x.GV) (n := (x.ns t)) (cap := c3))).mono ?_
    rintro e UB2 ⟨rfl, hb⟩
    replace H := H.below hb
    replace HB := HB.trans (hb.mono (HS.out _ HB))
    replace HBx := zh (HBx.out.trans (hb.mono (HZx.out _ HBx.out)))
    replace HT := HT.below hb
    replace HCB := HCB.trans (hb.mono (by have := HCB.size; omega))
    clear hb
    go_wp2_with fail
    refine hK.out _ _ (⟨H.c, H.c, H.c, H.c, H.c, H.c, H.c, H.c⟩) (fun hNew => ?_)
    clear hK K hHeld
    have hHeld := hNew
    clear hNew
    try go_frame
    refine wpAnyH_take (i := 15) (oi := ⟨some 79, _, _, _, _, _⟩) (v := ?_) rfl zk zk zk (fun _ _ _ h => h) (Or.inl ⟨zr, ?_⟩) za ?_
    rotate_left
    ·intro w hSw; (try dsimp only at hSw); go_simp; try with_reducible rfl
    go_frame
    refine wpAnyH_take (i := 16) (oi := ⟨some 95, _, _, _, _, _⟩) (v := ?_) rfl zk zk zk (fun _ _ _ h => h) (Or.inl ⟨zr, ?_⟩) za ?_
    rotate_left
    ·intro w hSw; (try dsimp only at hSw); go_simp; try with_reducible rfl
    go_frame
    refine wpAnyH_take (i := 17) (oi := ⟨some 96, _, _, _, _, _⟩) (v := ?_) rfl zk zk zk (fun _ _ _ h => h) (Or.inl ⟨zr, ?_⟩) za ?_
    rotate_left
    ·intro w hSw; (try dsimp only at hSw); go_simp; try with_reducible rfl
    go_frame
    refine wpAnyH_ready (rs := [19]) zk zs ?_
    refine AllReadyH.cons (o := ⟨none, _, _, _, _, _⟩) rfl (fun K hK => ?_) AllReadyH.nil
    obtain ⟨kt0, kt1⟩ := HT.cells2 TB1
    obtain ⟨ft0, ft1⟩ := HT.frozens2 TB1
    have lt := zA0 kt0
    go_simp
    have HCB2 := (HCB.setCell (p := ⟨TB1, 0, none⟩) (Nat.le_refl _) u1).setCell (p := ⟨TB1, 1, none⟩) (Nat.le_refl _) z1
    replace H := HC.out.below (HCB2.mono (Nat.le_of_eq hTE))
    have t0 : ((World.setCell UB2 ⟨TB1, 0, none⟩ u1).setCell ⟨TB1, 1, none⟩ z1).cell? ⟨TB1, 0, none⟩ = some (.int .i64 u1) := zA3 (World.cell?_setCell_same' _ _ _ (by rw [kt0]; rfl)) (Or.inr zd) _
    have t1 : ((World.setCell UB2 ⟨TB1, 0, none⟩ u1).setCell ⟨TB1, 1, none⟩ z1).cell? ⟨TB1, 1, none⟩ = some (.int .i64 z1) := World.cell?_setCell_same' _ _ _ (by rw [zA3 kt1 (Or.inr zd)]; rfl)
    replace HBx := zh ((HBx.out.setCell (p := ⟨TB1, 0, none⟩) hTW u1).setCell (p := ⟨TB1, 1, none⟩) hTW z1)
    refine hK.out _ _ (⟨H.c, H.c, H.c, H.c, H.c, H.c, H.c, H.c⟩) (fun hNew => ?_)
    clear hK K hHeld
    have hHeld := hNew
    clear hNew
    try go_frame
    refine wpAnyH_take (i := 20) (oi := ⟨some 14, _, _, _, _, _⟩) (v := ?_) rfl zk zk zk (fun _ _ _ h => h) (Or.inl ⟨zr, ?_⟩) za ?_
    rotate_left
    ·intro w hSw; (try dsimp only at hSw); go_simp; try with_reducible rfl
    go_frame
    refine wpAnyH_done zk ?_ _
    clear hHeld
    clear HT HCB kt0 kt1 ft0 ft1 lt HC HB HWD HS HU
    obtain ⟨V2, hV2⟩ : ∃ V2, (World.setCell UB2 ⟨TB1, 0, none⟩ u1).setCell ⟨TB1, 1, none⟩ z1 = V2 := ⟨_, rfl⟩
    rw [hV2] at H HBx t0 t1 ⊢
    clear hV2
    obtain ⟨T, hT⟩ : ∃ T, TB1 = T := ⟨_, rfl⟩
    rw [hT] at t0 t1 ⊢
    clear hT
    replace H := (H.add (f := .cell T 0 u1) t0).add (f := .cell T 1 z1) t1
    clear t0 t1
    obtain ⟨k0, k1⟩ := H.cells2 T
    have l0 := zA0 k0
    have c0' := H.cell S 0 u1
    have c1' := H.cell S 1 z1
    have lS := zA0 c0'
    have kc := H.cell w 3 _
    have lc := zA0 kc
    by_cases h6 : t.co = 6
    rotate_left
    ·have q6 : (t.co != 6) = true := by simpa using h6
     clear h6
     go_wp2
     go_ret
     exact ⟨rfl, H.old⟩
    have q6 : (t.co != 6) = false := by simpa using h6
    go_upto_region 23 with fail
    clear k0 k1 l0 c0' c1' lS kc lc q6
    have HL := zh H
    obtain ⟨W9, hW9⟩ : ∃ W9, V2 = W9 := ⟨_, rfl⟩
    rw [hW9] at HL ⊢
    clear hW9 H HBx
    go_wp2_with fail
    go_loopw [15] (fun i wr => ∃ k : Nat, 1 ≤ k ∧ k ≤ x.q + 1 ∧ i = .int .i64 (k : Int) ∧ Below W9 W9 wr) (fun i _ => x.q + 1 - (intOf i).toNat)
    case atStart => exact ⟨1, zo, zo, rfl, Below.refl _ _⟩
    case round =>
     obtain ⟨k, hk1, hk2, rfl, hB⟩ := hrel
     have H := HL.out.below hB
     have HBx := zh hB
     have HZy : Hid (∀ W, Below W9 W9 W → W9.heap.size ≤ W.heap.size) := zh (fun W h => h.size)
     clear hB
     have tw2 : IntKind.i64.wrap ((x.q : Int) + 1 + 1 - 2) = (x.q : Int) := (IntWalk.i64_in _ zo).trans zo
     by_cases hlt : k < x.q
     ·obtain ⟨bb, oo, ee, hcA⟩ := (H.days (ao := (some ⟨g1, o1, none⟩)) (X := x.V) (n := (x.q + 1 + 1)) (cap := c1)).2 zo
      injection ee with ee
      injection ee with e1 e2 _
      subst e1 e2
      obtain ⟨bb, oo, ee, hcR⟩ := (H.rat (ao := (some ⟨g2, o2, none⟩)) (P := x.P) (Q := x.Q) (n := x.q + 1) (cap := c2)).2 zo
      injection ee with ee
      injection ee with e1 e2 _
      subst e1 e2
      have ka := hcA k zo
      have kb := hcA (k + 1) zo
      obtain ⟨kp, kq⟩ := hcR k zo
      rw [Nat.mul_comm 2 k] at kp kq
      have hwh := WH.out h6 k hk1 hlt
      obtain ⟨va, hva⟩ : ∃ z, x.V k = z := ⟨_, rfl⟩
      obtain ⟨vb, hvb⟩ : ∃ z, x.V (k + 1) = z := ⟨_, rfl⟩
      rw [hva] at ka hwh
      rw [hvb] at kb hwh
      replace H := (H.add (f := .cell g1 (o1 + k) va) ka).add (f := .cell g1 (o1 + (k + 1)) vb) kb
      have twk : IntKind.i64.wrap ((k : Int) + 1) = (k : Int) + 1 := IntWalk.i64_in _ zo
      clear hcA hcR ka kb hva hvb
      go_upto_region 26 with fail
      by_cases hv : va < vb
      ·obtain ⟨hp, hq⟩ := hwh hv
       rw [hp] at kp
       rw [hq] at kq
       replace H := (H.add (f := .cell g2 (o2 + k * 2) (1:Int)) kp).add (f := .cell g2 (o2 + k * 2 + 1) (fr t.ms)) kq
       have t125 : decide (va < vb) = true := decide_eq_true hv
       have hmf := MF.out
       have hm0 := M0.out
       have hwf := FB.out
       clear kp kq hp hq hv hwh
       obtain ⟨i0, hi, hz0, hz1, hz2⟩ := info_parts zAo
       replace H := H.drew
       refine wp_region_held_drew (S := fun w' => w'.cell? ⟨w4, 1, none⟩ = some (.slice (some ⟨g1, o1, none⟩) (x.q + 1 + 1) c1) ∧ w'.cell? ⟨g1, o1 + k, none⟩ = some (.int .i64 va) ∧ w'.cell? ⟨g1, o1 + (k + 1), none⟩ = some (.int .i64 vb) ∧ w'.cell? ⟨w4, 2, none⟩ = some (.slice (some ⟨g2, o2, none⟩) (x.q + 1) c2) ∧ w'.cell? ⟨g2, o2 + k * 2, none⟩ = some (.int .i64 1) ∧ w'.cell? ⟨g2, o2 + k * 2 + 1, none⟩ = some (.int .i64 (fr t.ms)) ∧ w'.cell? ⟨w, 6, none⟩ = some (.int .i64 t.ms)) zk (⟨H.c, H.c, H.c, H.c, H.c, H.c, H.c⟩) (fun hHeld => ?_)
       replace HBx := zh (HBx.out.drew)
       obtain ⟨WD, hWD⟩ : ∃ WD, World.drew (wr) = WD := ⟨_, rfl⟩
       rw [hWD] at H hHeld HBx ⊢
       clear hWD
       obtain ⟨b0, hb0⟩ : ∃ b0, WD.heap.size = b0 := ⟨_, rfl⟩
       have HB := Below.refl b0 WD
       have HWD := zh H
       have HS : Hid (∀ W, Below b0 WD W → b0 ≤ W.heap.size) := zh (fun W h => by have z := h.size; rw [hb0] at z; exact z)
       have HU : Hid (∀ W, Below b0 WD W → Below WD WD W) := zh (fun W h => by rw [hb0]; exact h)
       clear hb0
       refine wpAnyH_take (i := 0) (oi := ⟨some 114, _, _, _, _, _⟩) (v := ?_) rfl zk zk zk (fun _ _ _ h => h) (Or.inl ⟨zr, ?_⟩) za ?_
       rotate_left
       ·intro w hSw; (try dsimp only at hSw); go_simp; try with_reducible rfl
       go_frame
       refine wpAnyH_take (i := 1) (oi := ⟨some 115, _, _, _, _, _⟩) (v := ?_) rfl zk zk zk (fun _ _ _ h => h) (Or.inl ⟨zr, ?_⟩) za ?_
       rotate_left
       ·intro w hSw; (try dsimp only at hSw); go_simp; try with_reducible rfl
       go_frame
       refine wpAnyH_take (i := 2) (oi := ⟨some 116, _, _, _, _, _⟩) (v := ?_) rfl zk zk zk (fun _ _ _ h => h) (Or.inl ⟨zr, ?_⟩) za ?_
       rotate_left
       ·intro w hSw; (try dsimp only at hSw); go_simp; try with_reducible rfl
       go_frame
       refine wpAnyH_take (i := 3) (oi := ⟨some 117, _, _, _, _, _⟩) (v := .pointer (some ⟨g1, o1 + k, none⟩)) rfl zk zk zk (fun _ _ _ h => h) (Or.inl ⟨zr, ?_⟩) za ?_
       ·intro w hSw; (try dsimp only at hSw); go_simp; (try rw [if_pos zo]); (try with_reducible rfl); (try omega)
       go_frame
       refine wpAnyH_take (i := 4) (oi := ⟨some 118, _, _, _, _, _⟩) (v := ?_) rfl zk zk zk (fun _ _ _ h => h) (Or.inl ⟨zr, ?_⟩) za ?_
       rotate_left
       ·intro w hSw; (try dsimp only at hSw); go_simp; try with_reducible rfl
       go_frame
       refine wpAnyH_take (i := 5) (oi := ⟨some 119, _, _, _, _, _⟩) (v := ?_) rfl zk zk zk (fun _ _ _ h => h) (Or.inl ⟨zr, ?_⟩) za ?_
       rotate_left
       ·intro w hSw; (try dsimp only at hSw); go_simp; try with_reducible rfl
       go_frame
       refine wpAnyH_take (i := 6) (oi := ⟨some 120, _, _, _, _, _⟩) (v := ?_) rfl zk zk zk (fun _ _ _ h => h) (Or.inl ⟨zr, ?_⟩) za ?_
       rotate_left
       ·intro w hSw; (try dsimp only at hSw); go_simp; try with_reducible rfl
       go_frame
       refine wpAnyH_take (i := 7) (oi := ⟨some 121, _, _, _, _, _⟩) (v := ?_) rfl zk zk zk (fun _ _ _ h => h) (Or.inl ⟨zr, ?_⟩) za ?_
       rotate_left
       ·intro w hSw; (try dsimp only at hSw); go_simp; try with_reducible rfl
       go_frame
       refine wpAnyH_take (i := 8) (oi := ⟨some 122, _, _, _, _, _⟩) (v := ?_) rfl zk zk zk (fun _ _ _ h => h) (Or.inl ⟨zr, ?_⟩) za ?_
       rotate_left
       ·intro w hSw; (try dsimp only at hSw); go_simp; try with_reducible rfl
       go_frame
       refine wpAnyH_take (i := 9) (oi := ⟨some 123, _, _, _, _, _⟩) (v := .pointer (some ⟨g1, o1 + (k + 1), none⟩)) rfl zk zk zk (fun _ _ _ h => h) (Or.inl ⟨zr, ?_⟩) za ?_
       ·intro w hSw; (try dsimp only at hSw); go_simp; (try rw [if_pos zo]); (try with_reducible rfl); (try omega)
       go_frame
       refine wpAnyH_take (i := 10) (oi := ⟨some 124, _, _, _, _, _⟩) (v := ?_) rfl zk zk zk (fun _ _ _ h => h) (Or.inl ⟨zr, ?_⟩) za ?_
       rotate_left
       ·intro w hSw; (try dsimp only at hSw); go_simp; try with_reducible rfl
       go_frame
       refine wpAnyH_take (i := 11) (oi := ⟨some 125, _, _, _, _, _⟩) (v := ?_) rfl zk zk zk (fun _ _ _ h => h) (Or.inl ⟨zr, ?_⟩) za ?_
       rotate_left
       ·intro w hSw; (try dsimp only at hSw); go_simp; try with_reducible rfl
       go_frame
       refine wpAnyH_take (i := 12) (oi := ⟨some 126, _, _, _, _, _⟩) (v := ?_) rfl zk zk zk (fun _ _ _ h => h) (Or.inl ⟨zr, ?_⟩) za ?_
       rotate_left
       ·intro w hSw; (try dsimp only at hSw); go_simp; try with_reducible rfl
       go_frame
       refine wpAnyH_take (i := 13) (oi := ⟨some 127, _, _, _, _, _⟩) (v := ?_) rfl zk zk zk (fun _ _ _ h => h) (Or.inl ⟨zr, ?_⟩) za ?_
       rotate_left
       ·intro w hSw; (try dsimp only at hSw); go_simp; try with_reducible rfl
       go_frame
       refine wpAnyH_take (i := 14) (oi := ⟨some 128, _, _, _, _, _⟩) (v := ?_) rfl zk zk zk (fun _ _ _ h => h) (Or.inl ⟨zr, ?_⟩) za ?_
       rotate_left
       ·intro w hSw; (try dsimp only at hSw); go_simp; try with_reducible rfl
       go_frame
       refine wpAnyH_take (i := 15) (oi := ⟨some 129, _, _, _, _, _⟩) (v := ?_) rfl zk zk zk (fun _ _ _ h => h) (Or.inl ⟨zr, ?_⟩) za ?_
       rotate_left
       ·intro w hSw; (try dsimp only at hSw); go_simp; try with_reducible rfl
       go_frame
       refine wpAnyH_take (i := 16) (oi := ⟨some 130, _, _, _, _, _⟩) (v := .pointer (some ⟨g2, o2 + k * 2, none⟩)) rfl zk zk zk (fun _ _ _ h => h) (Or.inl ⟨zr, ?_⟩) za ?_
       ·intro w hSw; (try dsimp only at hSw); go_simp; (try rw [if_pos zo]); (try with_reducible rfl); (try omega)
       go_frame
       refine wpAnyH_take (i := 17) (oi := ⟨some 131, _, _, _, _, _⟩) (v := ?_) rfl zk zk zk (fun _ _ _ h => h) (Or.inl ⟨zr, ?_⟩) za ?_
       rotate_left
       ·intro w hSw; (try dsimp only at hSw); go_simp; try with_reducible rfl
       go_frame
       refine wpAnyH_take (i := 18) (oi := ⟨some 132, _, _, _, _, _⟩) (v := ?_) rfl zk zk zk (fun _ _ _ h => h) (Or.inl ⟨zr, ?_⟩) za ?_
       rotate_left
       ·intro w hSw; (try dsimp only at hSw); go_simp; try with_reducible rfl
       go_frame
       refine wpAnyH_take (i := 19) (oi := ⟨some 133, _, _, _, _, _⟩) (v := ?_) rfl zk zk zk (fun _ _ _ h => h) (Or.inl ⟨zr, ?_⟩) za ?_
       rotate_left
       ·intro w hSw; (try dsimp only at hSw); go_simp; try with_reducible rfl
       go_frame
       refine wpAnyH_take (i := 20) (oi := ⟨some 134, _, _, _, _, _⟩) (v := .int .i64 (fr t.ms)) rfl zk zk zk (fun _ _ _ h => h) (Or.inl ⟨zr, ?_⟩) za ?_
       ·intro w hSw; (try dsimp only at hSw); go_simp; (try rw [if_pos zo]); (try with_reducible rfl); (try omega)
       go_frame
       refine wpAnyH_take (i := 21) (oi := ⟨some 135, _, _, _, _, _⟩) (v := ?_) rfl zk zk zk (fun _ _ _ h => h) (Or.inl ⟨zr, ?_⟩) za ?_
       rotate_left
       ·intro w hSw; (try dsimp only at hSw); go_simp; try with_reducible rfl
       go_frame
       refine wpAnyH_take (i := 22) (oi := ⟨some 136, _, _, _, _, _⟩) (v := ?_) rfl zk zk zk (fun _ _ _ h => h) (Or.inl ⟨zr, ?_⟩) za ?_
       rotate_left
       ·intro w hSw; (try dsimp only at hSw); go_simp; try with_reducible rfl
       go_frame
       refine wpAnyH_take (i := 23) (oi := ⟨some 137, _, _, _, _, _⟩) (v := ?_) rfl zk zk zk (fun _ _ _ h => h) (Or.inl ⟨zr, ?_⟩) za ?_
       rotate_left
       ·intro w hSw; (try dsimp only at hSw); go_simp; try with_reducible rfl
       go_frame
       refine wpAnyH_done zk ?_ _
       clear hHeld
       go_wp2
       go_roundw
       case rel => exact ⟨k + 1, zo, zo, by go_num, HBx.out⟩
       case measure => simp [intOf]; omega
      ·have t125 : decide (va < vb) = false := decide_eq_false hv
       clear kp kq hv hwh
       obtain ⟨i0, hi, hz0, hz1, hz2⟩ := info_parts zAo
       replace H := H.drew
       refine wp_region_held_drew (S := fun w' => w'.cell? ⟨w4, 1, none⟩ = some (.slice (some ⟨g1, o1, none⟩) (x.q + 1 + 1) c1) ∧ w'.cell? ⟨g1, o1 + k, none⟩ = some (.int .i64 va) ∧ w'.cell? ⟨g1, o1 + (k + 1), none⟩ = some (.int .i64 vb)) zk (⟨H.c, H.c, H.c⟩) (fun hHeld => ?_)
       replace HBx := zh (HBx.out.drew)
       obtain ⟨WD, hWD⟩ : ∃ WD, World.drew (wr) = WD := ⟨_, rfl⟩
       rw [hWD] at H hHeld HBx ⊢
       clear hWD
       obtain ⟨b0, hb0⟩ : ∃ b0, WD.heap.size = b0 := ⟨_, rfl⟩
       have HB := Below.refl b0 WD
       have HWD := zh H
       have HS : Hid (∀ W, Below b0 WD W → b0 ≤ W.heap.size) := zh (fun W h => by have z := h.size; rw [hb0] at z; exact z)
       have HU : Hid (∀ W, Below b0 WD W → Below WD WD W) := zh (fun W h => by rw [hb0]; exact h)
       clear hb0
       refine wpAnyH_take (i := 0) (oi := ⟨some 114, _, _, _, _, _⟩) (v := ?_) rfl zk zk zk (fun _ _ _ h => h) (Or.inl ⟨zr, ?_⟩) za ?_
       rotate_left
       ·intro w hSw; (try dsimp only at hSw); go_simp; try with_reducible rfl
       go_frame
       refine wpAnyH_take (i := 1) (oi := ⟨some 115, _, _, _, _, _⟩) (v := ?_) rfl zk zk zk (fun _ _ _ h => h) (Or.inl ⟨zr, ?_⟩) za ?_
       rotate_left
       ·intro w hSw; (try dsimp only at hSw); go_simp; try with_reducible rfl
       go_frame
       refine wpAnyH_take (i := 2) (oi := ⟨some 116, _, _, _, _, _⟩) (v := ?_) rfl zk zk zk (fun _ _ _ h => h) (Or.inl ⟨zr, ?_⟩) za ?_
       rotate_left
       ·intro w hSw; (try dsimp only at hSw); go_simp; try with_reducible rfl
       go_frame
       refine wpAnyH_take (i := 3) (oi := ⟨some 117, _, _, _, _, _⟩) (v := .pointer (some ⟨g1, o1 + k, none⟩)) rfl zk zk zk (fun _ _ _ h => h) (Or.inl ⟨zr, ?_⟩) za ?_
       ·intro w hSw; (try dsimp only at hSw); go_simp; (try rw [if_pos zo]); (try with_reducible rfl); (try omega)
       go_frame
       refine wpAnyH_take (i := 4) (oi := ⟨some 118, _, _, _, _, _⟩) (v := ?_) rfl zk zk zk (fun _ _ _ h => h) (Or.inl ⟨zr, ?_⟩) za ?_
       rotate_left
       ·intro w hSw; (try dsimp only at hSw); go_simp; try with_reducible rfl
       go_frame
       refine wpAnyH_take (i := 5) (oi := ⟨some 119, _, _, _, _, _⟩) (v := ?_) rfl zk zk zk (fun _ _ _ h => h) (Or.inl ⟨zr, ?_⟩) za ?_
       rotate_left
       ·intro w hSw; (try dsimp only at hSw); go_simp; try with_reducible rfl
       go_frame
       refine wpAnyH_take (i := 6) (oi := ⟨some 120, _, _, _, _, _⟩) (v := ?_) rfl zk zk zk (fun _ _ _ h => h) (Or.inl ⟨zr, ?_⟩) za ?_
       rotate_left
       ·intro w hSw; (try dsimp only at hSw); go_simp; try with_reducible rfl
       go_frame
       refine wpAnyH_take (i := 7) (oi := ⟨some 121, _, _, _, _, _⟩) (v := ?_) rfl zk zk zk (fun _ _ _ h => h) (Or.inl ⟨zr, ?_⟩) za ?_
       rotate_left
       ·intro w hSw; (try dsimp only at hSw); go_simp; try with_reducible rfl
       go_frame
       refine wpAnyH_take (i := 8) (oi := ⟨some 122, _, _, _, _, _⟩) (v := ?_) rfl zk zk zk (fun _ _ _ h => h) (Or.inl ⟨zr, ?_⟩) za ?_
       rotate_left
       ·intro w hSw; (try dsimp only at hSw); go_simp; try with_reducible rfl
       go_frame
       refine wpAnyH_take (i := 9) (oi := ⟨some 123, _, _, _, _, _⟩) (v := .pointer (some ⟨g1, o1 + (k + 1), none⟩)) rfl zk zk zk (fun _ _ _ h => h) (Or.inl ⟨zr, ?_⟩) za ?_
       ·intro w hSw; (try dsimp only at hSw); go_simp; (try rw [if_pos zo]); (try with_reducible rfl); (try omega)
       go_frame
       refine wpAnyH_take (i := 10) (oi := ⟨some 124, _, _, _, _, _⟩) (v := ?_) rfl zk zk zk (fun _ _ _ h => h) (Or.inl ⟨zr, ?_⟩) za ?_
       rotate_left
       ·intro w hSw; (try dsimp only at hSw); go_simp; try with_reducible rfl
       go_frame
       refine wpAnyH_take (i := 11) (oi := ⟨some 125, _, _, _, _, _⟩) (v := ?_) rfl zk zk zk (fun _ _ _ h => h) (Or.inl ⟨zr, ?_⟩) za ?_
       rotate_left
       ·intro w hSw; (try dsimp only at hSw); go_simp; try with_reducible rfl
       go_frame
       refine wpAnyH_take (i := 12) (oi := ⟨some 126, _, _, _, _, _⟩) (v := ?_) rfl zk zk zk (fun _ _ _ h => h) (Or.inl ⟨zr, ?_⟩) za ?_
       rotate_left
       ·intro w hSw; (try dsimp only at hSw); go_simp; try with_reducible rfl
       go_frame
       refine wpAnyH_take (i := 13) (oi := ⟨some 127, _, _, _, _, _⟩) (v := undef) rfl zk zk zk (fun _ _ _ h => h) (Or.inr ⟨zr, rfl⟩) za ?_
       go_frame
       refine wpAnyH_take (i := 14) (oi := ⟨some 128, _, _, _, _, _⟩) (v := undef) rfl zk zk zk (fun _ _ _ h => h) (Or.inr ⟨zr, rfl⟩) za ?_
       go_frame
       refine wpAnyH_take (i := 15) (oi := ⟨some 129, _, _, _, _, _⟩) (v := undef) rfl zk zk zk (fun _ _ _ h => h) (Or.inr ⟨zr, rfl⟩) za ?_
       go_frame
       refine wpAnyH_take (i := 16) (oi := ⟨some 130, _, _, _, _, _⟩) (v := undef) rfl zk zk zk (fun _ _ _ h => h) (Or.inr ⟨zr, rfl⟩) za ?_
       go_frame
       refine wpAnyH_take (i := 17) (oi := ⟨some 131, _, _, _, _, _⟩) (v := undef) rfl zk zk zk (fun _ _ _ h => h) (Or.inr ⟨zr, rfl⟩) za ?_
       go_frame
       refine wpAnyH_take (i := 18) (oi := ⟨some 132, _, _, _, _, _⟩) (v := undef) rfl zk zk zk (fun _ _ _ h => h) (Or.inr ⟨zr, rfl⟩) za ?_
       go_frame
       refine wpAnyH_take (i := 19) (oi := ⟨some 133, _, _, _, _, _⟩) (v := undef) rfl zk zk zk (fun _ _ _ h => h) (Or.inr ⟨zr, rfl⟩) za ?_
       go_frame
       refine wpAnyH_take (i := 20) (oi := ⟨some 134, _, _, _, _, _⟩) (v := undef) rfl zk zk zk (fun _ _ _ h => h) (Or.inr ⟨zr, rfl⟩) za ?_
       go_frame
       refine wpAnyH_take (i := 21) (oi := ⟨some 135, _, _, _, _, _⟩) (v := undef) rfl zk zk zk (fun _ _ _ h => h) (Or.inr ⟨zr, rfl⟩) za ?_
       go_frame
       refine wpAnyH_take (i := 22) (oi := ⟨some 136, _, _, _, _, _⟩) (v := undef) rfl zk zk zk (fun _ _ _ h => h) (Or.inr ⟨zr, rfl⟩) za ?_
       go_frame
       refine wpAnyH_take (i := 23) (oi := ⟨some 137, _, _, _, _, _⟩) (v := ?_) rfl zk zk zk (fun _ _ _ h => h) (Or.inl ⟨zr, ?_⟩) za ?_
       rotate_left
       ·intro w hSw; (try dsimp only at hSw); go_simp; try with_reducible rfl
       go_frame
       refine wpAnyH_done zk ?_ _
       clear hHeld
       go_wp2
       go_roundw
       case rel => exact ⟨k + 1, zo, zo, by go_num, HBx.out⟩
       case measure => simp [intOf]; omega
     ·have tq : decide ((k : Int) < (x.q : Int)) = false := decide_eq_false zo
      go_wp2
      go_ret
      exact ⟨rfl, H.old⟩
theorem scsums_walk (t : Tm) (c : Ca) (aR : Option Addr) (cR : Nat) (aD : Option Addr) (cD : Nat) (w : World) (hL : FactsS w) (hC : CalAt w c aR cR aD cD) : Calls Tryz.prog 5 #[.agg #[t.mo, t.ra, t.ki, t.co, t.st, t.en, t.ms, t.bk, t.lg, t.eo, t.ro], .agg #[(c.o 0), (c.o 1), (c.o 2), (c.o 3), (c.o 4), (c.o 5), (c.o 6), .slice aR c.nr cR, .slice aD c.nd cD]] w fun e w' => e = .returned true ∧ Below w w w' := by
 by_cases hc : t.code = 0
 ·by_cases h : c.Few ∧ c.May ∧ t.en - t.st ≤ 31 * 60
  ·by_cases h3 : t.co < 3
   ·exact scsums_few t c aR cR aD cD w hL hC hc h.1 h.2.1 (by have := h.2.2; omega) h3
   ·obtain ⟨x, hx, hS⟩ := plan_is t c (fun _ => by have := h.2.2; omega)
    by_cases hy : x.code t = 0
    ·exact scsums_good t c aR cR aD cD x w hL hC hc h.1 h.2.1 (by have := h.2.2; omega) zo hx hS hy
    ·exact scsums_bad t c aR cR aD cD x _ w hL hC hc h.1 h.2.1 (by have := h.2.2; omega) zo hx hS rfl hy
  ·exact scsums_far t c aR cR aD cD w hL hC hc ⟨fun g => (by cases g), fun g => absurd g h⟩
 ·exact scsums_no t c aR cR aD cD _ w hL hC rfl hc
end Go.Proofs.YtpfgdfpaoldhcaaGreatDoor
