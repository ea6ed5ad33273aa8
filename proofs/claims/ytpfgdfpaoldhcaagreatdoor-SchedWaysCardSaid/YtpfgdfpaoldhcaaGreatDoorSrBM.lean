/- Several texts in one: ScWays. -/
import Derived.Test.YtpfgdfpaoldhcaaGreatDoorSrBL
set_option maxHeartbeats 8000000
set_option maxRecDepth 100000
set_option linter.unusedVariables false
set_option linter.unusedSimpArgs false
namespace Go.Proofs.YtpfgdfpaoldhcaaGreatDoor
open Go.RowKit
theorem ways_plan (t : Tm) (c : Ca) (x : Pl) (k : Int) (hx : PlanIs t c x) (hS : t.code = 0 → x.Short) (hc : t.code = 0) (hk : 0 ≤ k ∧ k ≤ 6) : ∃ y, PlanIs (Tm.mk t.mo t.ra t.ki k t.st t.en t.ms t.bk t.lg t.eo t.ro) c y ∧ y.Short ∧ y.q = x.q ∧ (∀ i, (Tm.mk t.mo t.ra t.ki k t.st t.en t.ms t.bk t.lg t.eo t.ro).dd y.X y.q i = t.dd x.X x.q i) ∧ (∀ i, i < x.q + 2 → y.V i = x.V i ∧ y.C i = x.C i) := by
 obtain ⟨y, hy, hyX, hyE, hym, hyq⟩ := zLh (Tm.mk t.mo t.ra t.ki k t.st t.en t.ms t.bk t.lg t.eo t.ro) c x.X x.E x.m x.q (fun _ => (hx.walk hc).long rfl rfl rfl rfl rfl) (fun _ => hx.q hc)
 have hd : ∀ i, (Tm.mk t.mo t.ra t.ki k t.st t.en t.ms t.bk t.lg t.eo t.ro).dd y.X y.q i = t.dd x.X x.q i := fun i => by rw [hyX, hyq]; rfl
 refine ⟨y, hy, ⟨by rw [hym]; exact (hS hc).m, by rw [hyq]; exact (hS hc).q⟩, hyq, hd, fun i hi => ?_⟩
 have h := hy.roll i zo
 rw [hd] at h
 exact h.same (hx.roll i hi)
theorem ways_code {t : Tm} {c : Ca} {x : Pl} (hx : PlanIs t c x) (hc : t.code = 0) (h6 : t.co ≠ 6) : x.code t = fst1 x.C (x.q + 2) := by
 have hn : x.ns t = 0 := by unfold Pl.ns; rw [if_neg h6]
 by_cases hf : fst1 x.C (x.q + 2) = 0
 ·have hC := zB8.1 hf
  have hd : ∀ i, i < x.q + 2 → 1 ≤ x.V i ∧ x.V i ≤ 3652059 := fun i hi => by
   have h := hx.roll i hi
   rw [hC i hi] at h
   exact ⟨h.day, h.bd.2⟩
  rcases hx.told hc hC (fun i hi => by omega) hd (fun i hi => hx.rolls hc hC zo) with h | ⟨_, h⟩
  ·rw [h, hf]
  ·exact absurd h h6
 ·unfold Pl.code
  rw [if_neg zo, if_pos hf]
theorem ways_codes (t : Tm) (c : Ca) (x y : Pl) (k : Int) (hx : PlanIs t c x) (hc : t.code = 0) (hk : 0 ≤ k ∧ k ≤ 6) (hy : PlanIs (Tm.mk t.mo t.ra t.ki k t.st t.en t.ms t.bk t.lg t.eo t.ro) c y) (hq : y.q = x.q) (hV : ∀ i, i < x.q + 2 → y.V i = x.V i ∧ y.C i = x.C i) : x.code t = y.code (Tm.mk t.mo t.ra t.ki k t.st t.en t.ms t.bk t.lg t.eo t.ro) ∨ t.co = 6 ∨ k = 6 := by
 by_cases h6 : t.co = 6
 ·exact Or.inr (Or.inl h6)
 by_cases h7 : k = 6
 ·exact Or.inr (Or.inr h7)
 rw [ways_code hx hc h6, ways_code hy (t.code_co hc hk) h7, hq]
 exact Or.inl (fst1_ext (fun i hi => (hV i hi).2.symm))
theorem scways_no (t : Tm) (c : Ca) (aR : Option Addr) (cR : Nat) (aD : Option Addr) (cD : Nat) (z : Int) (y : Int) (w : World) (hL : FactsS w) (hC : CalAt w c aR cR aD cD) (hc : t.code = y) (h0 : y ≠ 0) : Calls Tryz.prog 8 #[.agg #[t.mo, t.ra, t.ki, t.co, t.st, t.en, t.ms, t.bk, t.lg, t.eo, t.ro], .agg #[(c.o 0), (c.o 1), (c.o 2), (c.o 3), (c.o 4), (c.o 5), (c.o 6), .slice aR c.nr cR, .slice aD c.nd cD], .int .u8 z] w fun e w' => e = .returned true ∧ Below w w w' := by
 have H := ((Held.start w).add (f := zAg) hL).add (f := calF c aR cR aD cD) hC
 have CK := zh (fun v => zEv t.mo t.ra t.ki t.co t.st t.en t.ms t.bk t.lg t.eo t.ro y v hc)
 have CNe : Hid ((y != 0) = true) := zh (by simpa using h0)
 have CE : Hid ((y == 0) = false) := zh (by simpa using h0)
 clear hc
 clear hL hC
 go_enter Tryz.func8, Tryz.ntmps8
 go_wp2_with fail
 replace H := H.box_11 w t.mo t.ra t.ki t.co t.st t.en t.ms t.bk t.lg t.eo t.ro 23 rfl
 replace H := H.box_9 (w + 1) (c.o 0) (c.o 1) (c.o 2) (c.o 3) (c.o 4) (c.o 5) (c.o 6) (.slice aR c.nr cR) (.slice aD c.nd cD) 28 zs
 revert H
 with_reducible refine zG (fun H => zD0 _ (H.factsS)) ?_
 intro w1 H
 obtain ⟨ct0, ct1, ct2, ct3, ct4, ct5, ct6, ct7, ct8, ct9, ct10⟩ := H.cells11 w
 have lt := zA0 ct0
 go_wp2_with fail
 clear ct0 ct1 ct2 ct3 ct4 ct5 ct6 ct7 ct8 ct9 ct10 lt
 revert H
 with_reducible refine zG (fun _ => CK.out _) ?_
 intro w2 H
 have cn := CNe.out
 have ce := CE.out
 go_wp2
 go_ret
 exact ⟨rfl, H.old⟩
theorem scways_far (t : Tm) (c : Ca) (aR : Option Addr) (cR : Nat) (aD : Option Addr) (cD : Nat) (z : Int) (w : World) (hL : FactsS w) (hC : CalAt w c aR cR aD cD) (hc : t.code = 0) (hb : false = true ↔ (c.Few ∧ c.May ∧ t.en - t.st ≤ 31 * 40)) : Calls Tryz.prog 8 #[.agg #[t.mo, t.ra, t.ki, t.co, t.st, t.en, t.ms, t.bk, t.lg, t.eo, t.ro], .agg #[(c.o 0), (c.o 1), (c.o 2), (c.o 3), (c.o 4), (c.o 5), (c.o 6), .slice aR c.nr cR, .slice aD c.nd cD], .int .u8 z] w fun e w' => e = .returned true ∧ Below w w w' := by
 have H := ((Held.start w).add (f := zAg) hL).add (f := calF c aR cR aD cD) hC
 have CK := zh (fun v => zEv t.mo t.ra t.ki t.co t.st t.en t.ms t.bk t.lg t.eo t.ro 0 v hc)
 have SHT := zh (fun v h => zEe t c aR cR aD cD 40 false v h hc zo hb)
 clear hc hb
 clear hL hC
 go_enter Tryz.func8, Tryz.ntmps8
 go_wp2_with fail
 replace H := H.box_11 w t.mo t.ra t.ki t.co t.st t.en t.ms t.bk t.lg t.eo t.ro 23 rfl
 replace H := H.box_9 (w + 1) (c.o 0) (c.o 1) (c.o 2) (c.o 3) (c.o 4) (c.o 5) (c.o 6) (.slice aR c.nr cR) (.slice aD c.nd cD) 28 zs
 revert H
 with_reducible refine zG (fun H => zD0 _ (H.factsS)) ?_
 intro w1 H
 obtain ⟨ct0, ct1, ct2, ct3, ct4, ct5, ct6, ct7, ct8, ct9, ct10⟩ := H.cells11 w
 have lt := zA0 ct0
 go_wp2_with fail
 clear ct0 ct1 ct2 ct3 ct4 ct5 ct6 ct7 ct8 ct9 ct10 lt
 revert H
 with_reducible refine zG (fun _ => CK.out _) ?_
 intro w2 H
 obtain ⟨ct0, ct1, ct2, ct3, ct4, ct5, ct6, ct7, ct8, ct9, ct10⟩ := H.cells11 w
 have lt := zA0 ct0
 obtain ⟨cc0, cc1, cc2, cc3, cc4, cc5, cc6, cc7, cc8⟩ := H.cells9 (w + 1)
 have lc := zA0 cc0
 go_wp2_with fail
 clear ct0 ct1 ct2 ct3 ct4 ct5 ct6 ct7 ct8 ct9 ct10 lt cc0 cc1 cc2 cc3 cc4 cc5 cc6 cc7 cc8 lc
 revert H
 with_reducible refine zG (fun H => SHT.out _ (H.cal (c := c) (aR := aR) (cR := cR) (aD := aD) (cD := cD))) ?_
 intro w3 H
 go_wp2
 go_ret
 exact ⟨rfl, H.old⟩
theorem scways_bad (t : Tm) (c : Ca) (aR : Option Addr) (cR : Nat) (aD : Option Addr) (cD : Nat) (z k : Int) (x : Pl) (w : World) (hL : FactsS w) (hC : CalAt w c aR cR aD cD) (hc : t.code = 0) (hF : c.Few) (hM : c.May) (hsh : t.en - t.st ≤ 1240) (hx : PlanIs t c x) (hS : t.code = 0 → x.Short) (hk : 0 ≤ k ∧ k ≤ 6) (hkk : z % 7 = k) (bz : 0 ≤ z ∧ z < 256) (y : Pl) (hy : PlanIs (Tm.mk t.mo t.ra t.ki k t.st t.en t.ms t.bk t.lg t.eo t.ro) c y) (hSy : y.Short) (hyq : y.q = x.q) (hyd : ∀ i, (Tm.mk t.mo t.ra t.ki k t.st t.en t.ms t.bk t.lg t.eo t.ro).dd y.X y.q i = t.dd x.X x.q i) (hyV : ∀ i, i < x.q + 2 → y.V i = x.V i ∧ y.C i = x.C i) (hno : ¬ (x.code t = 0 ∧ y.code (Tm.mk t.mo t.ra t.ki k t.st t.en t.ms t.bk t.lg t.eo t.ro) = 0)) : Calls Tryz.prog 8 #[.agg #[t.mo, t.ra, t.ki, t.co, t.st, t.en, t.ms, t.bk, t.lg, t.eo, t.ro], .agg #[(c.o 0), (c.o 1), (c.o 2), (c.o 3), (c.o 4), (c.o 5), (c.o 6), .slice aR c.nr cR, .slice aD c.nd cD], .int .u8 z] w fun e w' => e = .returned true ∧ Below w w w' := by
 have H := ((Held.start w).add (f := zAg) hL).add (f := calF c aR cR aD cD) hC
 have CK := zh (fun v => zEv t.mo t.ra t.ki t.co t.st t.en t.ms t.bk t.lg t.eo t.ro 0 v hc)
 have SHT := zh (fun v h => zEe t c aR cR aD cD 40 true v h hc zo ⟨fun _ => ⟨hF, hM, zo⟩, fun _ => rfl⟩)
 obtain ⟨s, hs⟩ : ∃ s, (Tm.mk t.mo t.ra t.ki k t.st t.en t.ms t.bk t.lg t.eo t.ro) = s := ⟨_, rfl⟩
 have O1 : Hid (∀ v, FactsS v → CalAt v c aR cR aD cD → Calls Tryz.prog 11 #[.agg #[t.mo, t.ra, t.ki, t.co, t.st, t.en, t.ms, t.bk, t.lg, t.eo, t.ro], .agg #[(c.o 0), (c.o 1), (c.o 2), (c.o 3), (c.o 4), (c.o 5), (c.o 6), .slice aR c.nr cR, .slice aD c.nd cD]] v fun e w' => PlanOut x t v.heap.size e w' ∧ Below v v w') := zh (fun v h g => zIv t c aR cR aD cD x v h g hM hx hS)
 have O2 : Hid (∀ v, FactsS v → CalAt v c aR cR aD cD → Calls Tryz.prog 11 #[.agg #[t.mo, t.ra, t.ki, k, t.st, t.en, t.ms, t.bk, t.lg, t.eo, t.ro], .agg #[(c.o 0), (c.o 1), (c.o 2), (c.o 3), (c.o 4), (c.o 5), (c.o 6), .slice aR c.nr cR, .slice aD c.nd cD]] v fun e w' => PlanOut y s v.heap.size e w' ∧ Below v v w') := zh (fun v h g => (zIv (Tm.mk t.mo t.ra t.ki k t.st t.en t.ms t.bk t.lg t.eo t.ro) c aR cR aD cD y v h g hM hy (fun _ => hSy)).mono (fun e w' hh => ⟨hs ▸ hh.1, hh.2⟩))
 have HKK := zh hkk
 have hD := ways_codes t c x y k hx hc hk hy hyq hyV
 rw [hs] at hD
 obtain ⟨e1, he1⟩ : ∃ e1, x.code t = e1 := ⟨_, rfl⟩
 obtain ⟨e2, he2⟩ : ∃ e2, y.code s = e2 := ⟨_, rfl⟩
 rw [he1, he2] at hD
 have hN : ¬ (e1 = 0 ∧ e2 = 0) := fun h => hno ⟨he1.trans h.1, (by rw [hs, he2]; exact h.2)⟩
 have HD := zh hD
 have HN := zh hN
 clear hD hN hno
 clear hc hF hM hsh hx hS hk hkk hy hSy hyq hyd hyV hs
 clear hL hC
 go_enter Tryz.func8, Tryz.ntmps8
 go_wp2_with fail
 replace H := H.box_11 w t.mo t.ra t.ki t.co t.st t.en t.ms t.bk t.lg t.eo t.ro 23 rfl
 replace H := H.box_9 (w + 1) (c.o 0) (c.o 1) (c.o 2) (c.o 3) (c.o 4) (c.o 5) (c.o 6) (.slice aR c.nr cR) (.slice aD c.nd cD) 28 zs
 revert H
 with_reducible refine zG (fun H => zD0 _ (H.factsS)) ?_
 intro w1 H
 obtain ⟨ct0, ct1, ct2, ct3, ct4, ct5, ct6, ct7, ct8, ct9, ct10⟩ := H.cells11 w
 have lt := zA0 ct0
 go_wp2_with fail
 clear ct0 ct1 ct2 ct3 ct4 ct5 ct6 ct7 ct8 ct9 ct10 lt
 revert H
 with_reducible refine zG (fun _ => CK.out _) ?_
 intro w2 H
 obtain ⟨ct0, ct1, ct2, ct3, ct4, ct5, ct6, ct7, ct8, ct9, ct10⟩ := H.cells11 w
 have lt := zA0 ct0
 obtain ⟨cc0, cc1, cc2, cc3, cc4, cc5, cc6, cc7, cc8⟩ := H.cells9 (w + 1)
 have lc := zA0 cc0
 go_wp2_with fail
 clear ct0 ct1 ct2 ct3 ct4 ct5 ct6 ct7 ct8 ct9 ct10 lt cc0 cc1 cc2 cc3 cc4 cc5 cc6 cc7 cc8 lc
 revert H
 with_reducible refine zG (fun H => SHT.out _ (H.cal (c := c) (aR := aR) (cR := cR) (aD := aD) (cD := cD))) ?_
 intro w3 H
 obtain ⟨ct0, ct1, ct2, ct3, ct4, ct5, ct6, ct7, ct8, ct9, ct10⟩ := H.cells11 w
 have lt := zA0 ct0
 obtain ⟨cc0, cc1, cc2, cc3, cc4, cc5, cc6, cc7, cc8⟩ := H.cells9 (w + 1)
 have lc := zA0 cc0
 go_wp2_with fail
 clear ct0 ct1 ct2 ct3 ct4 ct5 ct6 ct7 ct8 ct9 ct10 lt cc0 cc1 cc2 cc3 cc4 cc5 cc6 cc7 cc8 lc
 with_reducible refine (O1.out _ (H.factsS) (H.cal (c := c) (aR := aR) (cR := cR) (aD := aD) (cD := cD))).mono ?_
 rintro e w4 ⟨hp, hb⟩
 obtain ⟨a0, a1, a2, a3, p0, p1, p2, p3, rfl, -, -, -, -, -⟩ := hp
 replace H := H.below hb
 clear hb
 rw [he1]
 have hkk := HKK.out
 obtain ⟨ct0, ct1, ct2, ct3, ct4, ct5, ct6, ct7, ct8, ct9, ct10⟩ := H.cells11 w
 have lt := zA0 ct0
 obtain ⟨cc0, cc1, cc2, cc3, cc4, cc5, cc6, cc7, cc8⟩ := H.cells9 (w + 1)
 have lc := zA0 cc0
 go_upto_region 7 with fail
 clear ct0 ct1 ct2 ct3 ct4 ct5 ct6 ct7 ct8 ct9 ct10 lt cc0 cc1 cc2 cc3 cc4 cc5 cc6 cc7 cc8 lc hkk
 replace H := H.box_7 w4 (.slice a0 (x.n t) p0) (.slice a1 (x.n t) p1) (.slice a2 (x.np t) p2) (x.eo t) (x.en t) (x.f t) (.slice a3 (x.ng t) p3) 35 rfl
 replace H := H.box_11 (w4 + 1) t.mo t.ra t.ki k t.st t.en t.ms t.bk t.lg t.eo t.ro 23 zs
 revert H
 generalize World.alloc _ _ = W5
 intro H
 obtain ⟨cs0, cs1, cs2, cs3, cs4, cs5, cs6, cs7, cs8, cs9, cs10⟩ := H.cells11 (w4 + 1)
 have ls := zA0 cs0
 obtain ⟨cc0, cc1, cc2, cc3, cc4, cc5, cc6, cc7, cc8⟩ := H.cells9 (w + 1)
 have lc := zA0 cc0
 go_wp2_with fail
 clear cs0 cs1 cs2 cs3 cs4 cs5 cs6 cs7 cs8 cs9 cs10 ls cc0 cc1 cc2 cc3 cc4 cc5 cc6 cc7 cc8 lc
 with_reducible refine (O2.out _ (H.factsS) (H.cal (c := c) (aR := aR) (cR := cR) (aD := aD) (cD := cD))).mono ?_
 rintro e w5 ⟨hp, hb⟩
 obtain ⟨b0, b1, b2, b3, q0, q1, q2, q3, rfl, -, -, -, -, -⟩ := hp
 replace H := H.below hb
 clear hb
 rw [he2]
 go_upto_region 8 with fail
 replace H := H.box_7 w5 (.slice b0 (y.n s) q0) (.slice b1 (y.n s) q1) (.slice b2 (y.np s) q2) (.bool (y.eo s)) (.int .i64 (y.en s)) (.int .i64 (y.f s)) (.slice b3 (y.ng s) q3) 35 rfl
 revert H
 generalize World.alloc _ _ = W7
 intro H
 have HO := H.old
 have kt := H.cell w 3 _
 have ks := H.cell (w4 + 1) 3 _
 have lt := zA0 kt
 have ls := zA0 ks
 by_cases z1 : e1 = 0
 ·have z2 : ¬ e2 = 0 := fun h => HN.out ⟨z1, h⟩
  have y1 : (e1 != 0) = false := by simpa using z1
  have y2 : (e2 != 0) = true := by simpa using z2
  have q1 : (e1 == e2) = false := zx
  rcases HD.out with h | h | h
  ·omega
  ·have q2 : (t.co == 6) = true := by simpa using h
   clear HN HD h z1 z2
   go_wp2
   go_ret
   exact ⟨rfl, HO⟩
  ·have q3 : (k == 6) = true := by simpa using h
   clear HN HD h z1 z2
   by_cases h6 : t.co = 6
   ·have q2 : (t.co == 6) = true := by simpa using h6
    clear h6
    go_wp2
    go_ret
    exact ⟨rfl, HO⟩
   ·have q2 : (t.co == 6) = false := by simpa using h6
    clear h6
    go_wp2
    go_ret
    exact ⟨rfl, HO⟩
 ·have y1 : (e1 != 0) = true := by simpa using z1
  by_cases h1 : e1 = e2
  ·have q1 : (e1 == e2) = true := by simpa using h1
   clear HN HD h1 z1
   go_wp2
   go_ret
   exact ⟨rfl, HO⟩
  have q1 : (e1 == e2) = false := by simpa using h1
  rcases HD.out with h | h | h
  ·exact absurd h h1
  ·have q2 : (t.co == 6) = true := by simpa using h
   clear HN HD h z1 h1
   go_wp2
   go_ret
   exact ⟨rfl, HO⟩
  ·have q3 : (k == 6) = true := by simpa using h
   clear HN HD h z1 h1
   by_cases h6 : t.co = 6
   ·have q2 : (t.co == 6) = true := by simpa using h6
    clear h6
    go_wp2
    go_ret
    exact ⟨rfl, HO⟩
   ·have q2 : (t.co == 6) = false := by simpa using h6
    clear h6
    go_wp2
    go_ret
    exact ⟨rfl, HO⟩
theorem scways_good (t : Tm) (c : Ca) (aR : Option Addr) (cR : Nat) (aD : Option Addr) (cD : Nat) (z k : Int) (x : Pl) (w : World) (hL : FactsS w) (hC : CalAt w c aR cR aD cD) (hc : t.code = 0) (hF : c.Few) (hM : c.May) (hsh : t.en - t.st ≤ 1240) (hx : PlanIs t c x) (hS : t.code = 0 → x.Short) (hk : 0 ≤ k ∧ k ≤ 6) (hkk : z % 7 = k) (bz : 0 ≤ z ∧ z < 256) (y : Pl) (hy : PlanIs (Tm.mk t.mo t.ra t.ki k t.st t.en t.ms t.bk t.lg t.eo t.ro) c y) (hSy : y.Short) (hyq : y.q = x.q) (hyd : ∀ i, (Tm.mk t.mo t.ra t.ki k t.st t.en t.ms t.bk t.lg t.eo t.ro).dd y.X y.q i = t.dd x.X x.q i) (hyV : ∀ i, i < x.q + 2 → y.V i = x.V i ∧ y.C i = x.C i) (h0 : x.code t = 0) (hyc : y.code (Tm.mk t.mo t.ra t.ki k t.st t.en t.ms t.bk t.lg t.eo t.ro) = 0) : Calls Tryz.prog 8 #[.agg #[t.mo, t.ra, t.ki, t.co, t.st, t.en, t.ms, t.bk, t.lg, t.eo, t.ro], .agg #[(c.o 0), (c.o 1), (c.o 2), (c.o 3), (c.o 4), (c.o 5), (c.o 6), .slice aR c.nr cR, .slice aD c.nd cD], .int .u8 z] w fun e w' => e = .returned true ∧ Below w w w' := by
 have H := ((Held.start w).add (f := zAg) hL).add (f := calF c aR cR aD cD) hC
 have CK := zh (fun v => zEv t.mo t.ra t.ki t.co t.st t.en t.ms t.bk t.lg t.eo t.ro 0 v hc)
 have SHT := zh (fun v h => zEe t c aR cR aD cD 40 true v h hc zo ⟨fun _ => ⟨hF, hM, zo⟩, fun _ => rfl⟩)
 obtain ⟨s, hs⟩ : ∃ s, (Tm.mk t.mo t.ra t.ki k t.st t.en t.ms t.bk t.lg t.eo t.ro) = s := ⟨_, rfl⟩
 have O1 : Hid (∀ v, FactsS v → CalAt v c aR cR aD cD → Calls Tryz.prog 11 #[.agg #[t.mo, t.ra, t.ki, t.co, t.st, t.en, t.ms, t.bk, t.lg, t.eo, t.ro], .agg #[(c.o 0), (c.o 1), (c.o 2), (c.o 3), (c.o 4), (c.o 5), (c.o 6), .slice aR c.nr cR, .slice aD c.nd cD]] v fun e w' => PlanOut x t v.heap.size e w' ∧ Below v v w') := zh (fun v h g => zIv t c aR cR aD cD x v h g hM hx hS)
 have O2 : Hid (∀ v, FactsS v → CalAt v c aR cR aD cD → Calls Tryz.prog 11 #[.agg #[t.mo, t.ra, t.ki, k, t.st, t.en, t.ms, t.bk, t.lg, t.eo, t.ro], .agg #[(c.o 0), (c.o 1), (c.o 2), (c.o 3), (c.o 4), (c.o 5), (c.o 6), .slice aR c.nr cR, .slice aD c.nd cD]] v fun e w' => PlanOut y s v.heap.size e w' ∧ Below v v w') := zh (fun v h g => (zIv (Tm.mk t.mo t.ra t.ki k t.st t.en t.ms t.bk t.lg t.eo t.ro) c aR cR aD cD y v h g hM hy (fun _ => hSy)).mono (fun e w' hh => ⟨hs ▸ hh.1, hh.2⟩))
 have HKK := zh hkk
 have HB1 := zh (fun n0 e W (h : PlanOut x t n0 e W) => h.fine h0)
 have HB2 : Hid (∀ n0 e W, PlanOut y s n0 e W → _) := zh (fun n0 e W (h : PlanOut y s n0 e W) => h.fine (hs ▸ hyc))
 obtain ⟨-, -, -, hP0⟩ := Pl.good hyc
 have RP : Hid (∀ i v, i < y.q + 1 → ∀ a3 q3, DaysAt v a3 y.GV (y.ns s) q3 → Calls Tryz.prog 19 #[k, .int .i64 (y.V i), .int .i64 (y.V (i + 1)), .agg #[.bool s.eo, (y.V (y.q + 1):Int), .int .i64 (fr s.ms), .slice a3 (y.ns s) q3]] v fun e w' => e = .returned (.tuple #[.agg #[.int .i64 (y.P i), .int .i64 (y.Q i)], (0:Int)]) ∧ Below v v w') := zh (fun i v hi a3 q3 hd => by
  have hn : y.ns s ≤ 100 := by have := hSy.k; unfold Pl.ns; split <;> omega
  have h := hy.part i hi
  rw [hP0 i hi, hs] at h
  subst hs
  exact rpart10_any k (y.V i) (y.V (i + 1)) t.eo (y.V (y.q + 1)) (fr t.ms) a3 (y.ns (Tm.mk t.mo t.ra t.ki k t.st t.en t.ms t.bk t.lg t.eo t.ro)) q3 y.GV (y.P i) (y.Q i) 0 v hn hd.row h)
 have hq9 : x.q ≤ 90 := (hS hc).q
 have D1 : Hid (∀ i, i < x.q + 1 + 1 → t.dd x.X x.q i = s.dd y.X y.q i) := zh (fun i _ => by rw [← hs]; exact (hyd i).symm)
 have D2 : Hid (∀ i, i < x.q + 1 + 1 → x.V i = y.V i) := zh (fun i hi => (hyV i zo).1.symm)
 have QQ := zh hyq
 clear hyc h0 hP0
 clear hc hF hM hsh hx hS hk hkk hy hSy hyq hyd hyV hs
 clear hL hC
 go_enter Tryz.func8, Tryz.ntmps8
 go_wp2_with fail
 replace H := H.box_11 w t.mo t.ra t.ki t.co t.st t.en t.ms t.bk t.lg t.eo t.ro 23 rfl
 replace H := H.box_9 (w + 1) (c.o 0) (c.o 1) (c.o 2) (c.o 3) (c.o 4) (c.o 5) (c.o 6) (.slice aR c.nr cR) (.slice aD c.nd cD) 28 zs
 revert H
 with_reducible refine zG (fun H => zD0 _ (H.factsS)) ?_
 intro w1 H
 obtain ⟨ct0, ct1, ct2, ct3, ct4, ct5, ct6, ct7, ct8, ct9, ct10⟩ := H.cells11 w
 have lt := zA0 ct0
 go_wp2_with fail
 clear ct0 ct1 ct2 ct3 ct4 ct5 ct6 ct7 ct8 ct9 ct10 lt
 revert H
 with_reducible refine zG (fun _ => CK.out _) ?_
 intro w2 H
 obtain ⟨ct0, ct1, ct2, ct3, ct4, ct5, ct6, ct7, ct8, ct9, ct10⟩ := H.cells11 w
 have lt := zA0 ct0
 obtain ⟨cc0, cc1, cc2, cc3, cc4, cc5, cc6, cc7, cc8⟩ := H.cells9 (w + 1)
 have lc := zA0 cc0
 go_wp2_with fail
 clear ct0 ct1 ct2 ct3 ct4 ct5 ct6 ct7 ct8 ct9 ct10 lt cc0 cc1 cc2 cc3 cc4 cc5 cc6 cc7 cc8 lc
 revert H
 with_reducible refine zG (fun H => SHT.out _ (H.cal (c := c) (aR := aR) (cR := cR) (aD := aD) (cD := cD))) ?_
 intro w3 H
 obtain ⟨ct0, ct1, ct2, ct3, ct4, ct5, ct6, ct7, ct8, ct9, ct10⟩ := H.cells11 w
 have lt := zA0 ct0
 obtain ⟨cc0, cc1, cc2, cc3, cc4, cc5, cc6, cc7, cc8⟩ := H.cells9 (w + 1)
 have lc := zA0 cc0
 go_wp2_with fail
 clear ct0 ct1 ct2 ct3 ct4 ct5 ct6 ct7 ct8 ct9 ct10 lt cc0 cc1 cc2 cc3 cc4 cc5 cc6 cc7 cc8 lc
 with_reducible refine (O1.out _ (H.factsS) (H.cal (c := c) (aR := aR) (cR := cR) (aD := aD) (cD := cD))).mono ?_
 rintro e w4 ⟨hp, hb⟩
 obtain ⟨a0, a1, a2, a3, p0, p1, p2, p3, rfl, hd0, hd1, hd2, hd3⟩ := HB1.out _ _ _ hp
 replace H := ((((H.below hb).add (f := zAb a0 (t.dd x.X x.q) (x.q + 1 + 1) p0) hd0).add (f := zAb a1 x.V (x.q + 1 + 1) p1) hd1).add (f := ratF a2 x.P x.Q (x.q + 1) p2) hd2).add (f := zAb a3 x.GV (x.ns t) p3) hd3
 clear hb hp hd0 hd1 hd2 hd3
 have hkk := HKK.out
 obtain ⟨ct0, ct1, ct2, ct3, ct4, ct5, ct6, ct7, ct8, ct9, ct10⟩ := H.cells11 w
 have lt := zA0 ct0
 obtain ⟨cc0, cc1, cc2, cc3, cc4, cc5, cc6, cc7, cc8⟩ := H.cells9 (w + 1)
 have lc := zA0 cc0
 go_upto_region 7 with fail
 clear ct0 ct1 ct2 ct3 ct4 ct5 ct6 ct7 ct8 ct9 ct10 lt cc0 cc1 cc2 cc3 cc4 cc5 cc6 cc7 cc8 lc hkk
 replace H := H.box_7 w4 (.slice a0 (x.q + 1 + 1) p0) (.slice a1 (x.q + 1 + 1) p1) (.slice a2 (x.q + 1) p2) t.eo (x.V (x.q + 1):Int) (fr t.ms) (.slice a3 (x.ns t) p3) 35 rfl
 replace H := H.box_11 (w4 + 1) t.mo t.ra t.ki k t.st t.en t.ms t.bk t.lg t.eo t.ro 23 zs
 revert H
 generalize World.alloc _ _ = W5
 intro H
 obtain ⟨cs0, cs1, cs2, cs3, cs4, cs5, cs6, cs7, cs8, cs9, cs10⟩ := H.cells11 (w4 + 1)
 have ls := zA0 cs0
 obtain ⟨cc0, cc1, cc2, cc3, cc4, cc5, cc6, cc7, cc8⟩ := H.cells9 (w + 1)
 have lc := zA0 cc0
 go_wp2_with fail
 clear cs0 cs1 cs2 cs3 cs4 cs5 cs6 cs7 cs8 cs9 cs10 ls cc0 cc1 cc2 cc3 cc4 cc5 cc6 cc7 cc8 lc
 with_reducible refine (O2.out _ (H.factsS) (H.cal (c := c) (aR := aR) (cR := cR) (aD := aD) (cD := cD))).mono ?_
 rintro e w5 ⟨hp, hb⟩
 obtain ⟨b0, b1, b2, b3, q0, q1, q2, q3, rfl, hd0, hd1, hd2, hd3⟩ := HB2.out _ _ _ hp
 obtain ⟨g1, o1, rfl, -⟩ := hd1.2 zo
 obtain ⟨g2, o2, rfl, -⟩ := hd2.2 zo
 have hcq1 := hd1.1
 have hcq2 := hd2.1
 replace H := ((((H.below hb).add (f := zAb b0 (s.dd y.X y.q) (y.q + 1 + 1) q0) hd0).add (f := zAb (some ⟨g1, o1, none⟩) y.V (y.q + 1 + 1) q1) hd1).add (f := ratF (some ⟨g2, o2, none⟩) y.P y.Q (y.q + 1) q2) hd2).add (f := zAb b3 y.GV (y.ns s) q3) hd3
 clear hb hp hd0 hd1 hd2 hd3
 go_upto_region 8 with fail
 replace H := H.box_7 w5 (.slice b0 (y.q + 1 + 1) q0) (.slice (some ⟨g1, o1, none⟩) (y.q + 1 + 1) q1) (.slice (some ⟨g2, o2, none⟩) (y.q + 1) q2) (.bool s.eo) (y.V (y.q + 1):Int) (.int .i64 (fr s.ms)) (.slice b3 (y.ns s) q3) 35 rfl
 revert H
 generalize World.alloc _ _ = W7
 intro H
 have hqq := QQ.out
 rw [hqq] at H hcq1 hcq2
 (try rw [hqq])
 obtain ⟨ca0, ca1, ca2, ca3, ca4, ca5, ca6⟩ := H.cells7 w4
 have la := zA0 ca0
 obtain ⟨cb0, cb1, cb2, cb3, cb4, cb5, cb6⟩ := H.cells7 w5
 have lb := zA0 cb0
 go_wp2_with fail
 clear ca0 ca1 ca2 ca3 ca4 ca5 ca6 la cb0 cb1 cb2 cb3 cb4 cb5 cb6 lb
 revert H
 with_reducible refine zG (fun H => zNg a0 (x.q + 1 + 1) p0 (t.dd x.X x.q) b0 q0 (s.dd y.X x.q) _ zo (H.days (ao := a0) (X := (t.dd x.X x.q)) (n := (x.q + 1 + 1)) (cap := p0)) (H.days (ao := b0) (X := (s.dd y.X x.q)) (n := (x.q + 1 + 1)) (cap := q0)) (by have h := D1.out; rw [hqq] at h; exact h)) ?_
 intro w6 H
 obtain ⟨ca0, ca1, ca2, ca3, ca4, ca5, ca6⟩ := H.cells7 w4
 have la := zA0 ca0
 obtain ⟨cb0, cb1, cb2, cb3, cb4, cb5, cb6⟩ := H.cells7 w5
 have lb := zA0 cb0
 go_wp2_with fail
 clear ca0 ca1 ca2 ca3 ca4 ca5 ca6 la cb0 cb1 cb2 cb3 cb4 cb5 cb6 lb
 revert H
 with_reducible refine zG (fun H => zNg a1 (x.q + 1 + 1) p1 x.V (some ⟨g1, o1, none⟩) q1 y.V _ zo (H.days (ao := a1) (X := x.V) (n := (x.q + 1 + 1)) (cap := p1)) (H.days (ao := (some ⟨g1, o1, none⟩)) (X := y.V) (n := (x.q + 1 + 1)) (cap := q1)) D2.out) ?_
 intro w7 H
 obtain ⟨ca0, ca1, ca2, ca3, ca4, ca5, ca6⟩ := H.cells7 w4
 have la := zA0 ca0
 obtain ⟨cb0, cb1, cb2, cb3, cb4, cb5, cb6⟩ := H.cells7 w5
 have lb := zA0 cb0
 have tw1 : IntKind.i64.wrap ((x.q : Int) + 1) = (x.q : Int) + 1 := IntWalk.i64_in _ zo
 go_wp2_with fail
 clear tw1 ca0 ca1 ca2 ca3 ca4 ca5 ca6 la cb0 cb1 cb2 cb3 cb4 cb5 cb6 lb
 have HH := zh H
 have HO := zh H.size
 obtain ⟨W6, hW6⟩ : ∃ W6, w7 = W6 := ⟨_, rfl⟩
 rw [hW6] at H HH ⊢
 clear hW6 H
 go_loopw [13, 14, 15] (fun i s14 s15 wr => ∃ k : Nat, k ≤ x.q + 1 ∧ i = .int .i64 (k : Int) ∧ Below W6 W6 wr) (fun i _ _ _ => x.q + 1 - (intOf i).toNat)
 case atStart => exact ⟨0, zo, rfl, Below.refl _ _⟩
 case round =>
  obtain ⟨i, hk, rfl, hB⟩ := hrel
  have H := HH.out.below hB
  have HBx := zh hB
  have HZx : Hid (∀ W, Below W6 W6 W → W6.heap.size ≤ W.heap.size) := zh (fun W h => h.size)
  clear hB
  have kl := H.cell w5 2 _
  have ll := zA0 kl
  by_cases hlt : i < x.q + 1
  ·obtain ⟨bb, oo, ee, hcB⟩ := (H.days (ao := (some ⟨g1, o1, none⟩)) (X := y.V) (n := x.q + 1 + 1) (cap := q1)).2 zo
   injection ee with ee
   injection ee with e1 e2 _
   subst e1 e2
   obtain ⟨bb, oo, ee, hcR⟩ := (H.rat (ao := (some ⟨g2, o2, none⟩)) (P := y.P) (Q := y.Q) (n := x.q + 1) (cap := q2)).2 zo
   injection ee with ee
   injection ee with e1 e2 _
   subst e1 e2
   have ka := hcB i zo
   have kb := hcB (i + 1) zo
   obtain ⟨kp, kq⟩ := hcR i zo
   rw [Nat.mul_comm 2 i] at kp kq
   have R1 := zh (fun v => RP.out i v zo)
   rw [QQ.out] at R1
   obtain ⟨va, hva⟩ : ∃ z, y.V i = z := ⟨_, rfl⟩
   obtain ⟨vb, hvb⟩ : ∃ z, y.V (i + 1) = z := ⟨_, rfl⟩
   obtain ⟨pi, hpi⟩ : ∃ z, y.P i = z := ⟨_, rfl⟩
   obtain ⟨qi, hqi⟩ : ∃ z, y.Q i = z := ⟨_, rfl⟩
   rw [hva] at ka R1
   rw [hvb] at kb R1
   rw [hpi] at kp R1
   rw [hqi] at kq R1
   replace H := (((H.add (f := .cell g1 (o1 + i) va) ka).add (f := .cell g1 (o1 + (i + 1)) vb) kb).add (f := .cell g2 (o2 + i * 2) pi) kp).add (f := .cell g2 (o2 + i * 2 + 1) qi) kq
   have twi : IntKind.i64.wrap ((i : Int) + 1) = (i : Int) + 1 := IntWalk.i64_in _ zo
   clear hcB hcR ka kb kp kq hva hvb hpi hqi
   go_upto_region 15 with fail
   clear kl ll
   obtain ⟨i0, hi, hz0, hz1, hz2⟩ := info_parts zAo
   replace H := H.drew
   refine wp_region_held_drew (S := fun w' => w'.cell? ⟨w4 + 1, 3, none⟩ = some (.int .i64 k) ∧ w'.cell? ⟨w5, 1, none⟩ = some (.slice (some ⟨g1, o1, none⟩) (x.q + 1 + 1) q1) ∧ w'.cell? ⟨w5, 3, none⟩ = some (.bool s.eo) ∧ w'.cell? ⟨w5, 4, none⟩ = some (.int .i64 (y.V (x.q + 1))) ∧ w'.cell? ⟨w5, 5, none⟩ = some (.int .i64 (fr s.ms)) ∧ w'.cell? ⟨w5, 6, none⟩ = some (.slice b3 (y.ns s) q3) ∧ w'.cell? ⟨g1, o1 + i, none⟩ = some (.int .i64 va) ∧ w'.cell? ⟨g1, o1 + (i + 1), none⟩ = some (.int .i64 vb)) zk (⟨H.c, H.c, H.c, H.c, H.c, H.c, H.c, H.c⟩) (fun hHeld => ?_)
   replace HBx := zh (HBx.out.drew)
   obtain ⟨WD, hWD⟩ : ∃ WD, World.drew (wr) = WD := ⟨_, rfl⟩
   rw [hWD] at H hHeld HBx ⊢
   clear hWD
   obtain ⟨b0, hb0⟩ : ∃ b0, WD.heap.size = b0 := ⟨_, rfl⟩
   have HB := Below.refl b0 WD
   have HWD := zh H
   have HS : Hid (∀ W, Below b0 WD W → b0 ≤ W.heap.size) := zh (fun W h => by have z := h.size; rw [hb0] at z; exact z)
   have HU : Hid (∀ W, Below b0 WD W → Below WD WD W) := zh (fun W h => by rw [hb0]; exact h)
   clear hb0
   refine wpAnyH_take (i := 0) (oi := ⟨some 98, _, _, _, _, _⟩) (v := ?_) rfl zk zk zk (fun _ _ _ h => h) (Or.inl ⟨zr, ?_⟩) za ?_
   rotate_left
   ·intro w hSw; (try dsimp only at hSw); go_simp; try with_reducible rfl
   go_frame
   refine wpAnyH_take (i := 1) (oi := ⟨some 99, _, _, _, _, _⟩) (v := ?_) rfl zk zk zk (fun _ _ _ h => h) (Or.inl ⟨zr, ?_⟩) za ?_
   rotate_left
   ·intro w hSw; (try dsimp only at hSw); go_simp; try with_reducible rfl
   go_frame
   refine wpAnyH_take (i := 2) (oi := ⟨some 100, _, _, _, _, _⟩) (v := ?_) rfl zk zk zk (fun _ _ _ h => h) (Or.inl ⟨zr, ?_⟩) za ?_
   rotate_left
   ·intro w hSw; (try dsimp only at hSw); go_simp; try with_reducible rfl
   go_frame
   refine wpAnyH_take (i := 3) (oi := ⟨some 101, _, _, _, _, _⟩) (v := ?_) rfl zk zk zk (fun _ _ _ h => h) (Or.inl ⟨zr, ?_⟩) za ?_
   rotate_left
   ·intro w hSw; (try dsimp only at hSw); go_simp; try with_reducible rfl
   go_frame
   refine wpAnyH_take (i := 4) (oi := ⟨some 102, _, _, _, _, _⟩) (v := ?_) rfl zk zk zk (fun _ _ _ h => h) (Or.inl ⟨zr, ?_⟩) za ?_
   rotate_left
   ·intro w hSw; (try dsimp only at hSw); go_simp; try with_reducible rfl
   go_frame
   refine wpAnyH_take (i := 5) (oi := ⟨some 103, _, _, _, _, _⟩) (v := .pointer (some ⟨g1, o1 + i, none⟩)) rfl zk zk zk (fun _ _ _ h => h) (Or.inl ⟨zr, ?_⟩) za ?_
   ·intro w hSw; (try dsimp only at hSw); go_simp; (try rw [if_pos zo]); (try with_reducible rfl); (try omega)
   go_frame
   refine wpAnyH_take (i := 6) (oi := ⟨some 104, _, _, _, _, _⟩) (v := ?_) rfl zk zk zk (fun _ _ _ h => h) (Or.inl ⟨zr, ?_⟩) za ?_
   rotate_left
   ·intro w hSw; (try dsimp only at hSw); go_simp; try with_reducible rfl
   go_frame
   refine wpAnyH_take (i := 7) (oi := ⟨some 105, _, _, _, _, _⟩) (v := ?_) rfl zk zk zk (fun _ _ _ h => h) (Or.inl ⟨zr, ?_⟩) za ?_
   rotate_left
   ·intro w hSw; (try dsimp only at hSw); go_simp; try with_reducible rfl
   go_frame
   refine wpAnyH_take (i := 8) (oi := ⟨some 106, _, _, _, _, _⟩) (v := ?_) rfl zk zk zk (fun _ _ _ h => h) (Or.inl ⟨zr, ?_⟩) za ?_
   rotate_left
   ·intro w hSw; (try dsimp only at hSw); go_simp; try with_reducible rfl
   go_frame
   refine wpAnyH_take (i := 9) (oi := ⟨some 107, _, _, _, _, _⟩) (v := ?_) rfl zk zk zk (fun _ _ _ h => h) (Or.inl ⟨zr, ?_⟩) za ?_
   rotate_left
   ·intro w hSw; (try dsimp only at hSw); go_simp; try with_reducible rfl
   go_frame
   refine wpAnyH_take (i := 10) (oi := ⟨some 108, _, _, _, _, _⟩) (v := ?_) rfl zk zk zk (fun _ _ _ h => h) (Or.inl ⟨zr, ?_⟩) za ?_
   rotate_left
   ·intro w hSw; (try dsimp only at hSw); go_simp; try with_reducible rfl
   go_frame
   refine wpAnyH_take (i := 11) (oi := ⟨some 109, _, _, _, _, _⟩) (v := .pointer (some ⟨g1, o1 + (i + 1), none⟩)) rfl zk zk zk (fun _ _ _ h => h) (Or.inl ⟨zr, ?_⟩) za ?_
   ·intro w hSw; (try dsimp only at hSw); go_simp; (try rw [if_pos zo]); (try with_reducible rfl); (try omega)
   go_frame
   refine wpAnyH_take (i := 12) (oi := ⟨some 110, _, _, _, _, _⟩) (v := ?_) rfl zk zk zk (fun _ _ _ h => h) (Or.inl ⟨zr, ?_⟩) za ?_
   rotate_left
   ·intro w hSw; (try dsimp only at hSw); go_simp; try with_reducible rfl
   go_frame
   refine wpAnyH_take (i := 13) (oi := ⟨some 111, _, _, _, _, _⟩) (v := ?_) rfl zk zk zk (fun _ _ _ h => h) (Or.inl ⟨zr, ?_⟩) za ?_
   rotate_left
   ·intro w hSw; (try dsimp only at hSw); go_simp; try with_reducible rfl
   go_frame
   refine wpAnyH_take (i := 14) (oi := ⟨some 112, _, _, _, _, _⟩) (v := ?_) rfl zk zk zk (fun _ _ _ h => h) (Or.inl ⟨zr, ?_⟩) za ?_
   rotate_left
   ·intro w hSw; (try dsimp only at hSw); go_simp; try with_reducible rfl
   go_frame
   refine wpAnyH_ready (rs := [15, 19]) zk zs ?_
   refine AllReadyH.cons (o := ⟨some 113, _, _, _, _, _⟩) rfl (fun K hK => ?_) (AllReadyH.cons (o := ⟨some 14, _, _, _, _, _⟩) rfl (fun K hK => ?_) AllReadyH.nil)
   ·
    go_simp
    with_reducible refine (R1.out _ _ _ (H.days (ao := b3) (X := y.GV) (n := (y.ns s)) (cap := q3))).mono ?_
    rintro e UA1 ⟨rfl, hb⟩
    replace H := H.below hb
    replace HB := HB.trans (hb.mono (HS.out _ HB))
    replace HBx := zh (HBx.out.trans (hb.mono (HZx.out _ HBx.out)))
    clear hb
    go_wp2_with fail
    refine hK.out _ _ (⟨H.c, H.c, H.c, H.c, H.c, H.c, H.c, H.c⟩) (fun hNew => ?_)
    clear hK K hHeld
    have hHeld := hNew
    clear hNew
    try go_frame
    refine wpAnyH_take (i := 16) (oi := ⟨some 97, _, _, _, _, _⟩) (v := ?_) rfl zk zk zk (fun _ _ _ h => h) (Or.inl ⟨zr, ?_⟩) za ?_
    rotate_left
    ·intro w hSw; (try dsimp only at hSw); go_simp; try with_reducible rfl
    go_frame
    refine wpAnyH_take (i := 17) (oi := ⟨some 114, _, _, _, _, _⟩) (v := ?_) rfl zk zk zk (fun _ _ _ h => h) (Or.inl ⟨zr, ?_⟩) za ?_
    rotate_left
    ·intro w hSw; (try dsimp only at hSw); go_simp; try with_reducible rfl
    go_frame
    refine wpAnyH_take (i := 18) (oi := ⟨some 115, _, _, _, _, _⟩) (v := ?_) rfl zk zk zk (fun _ _ _ h => h) (Or.inl ⟨zr, ?_⟩) za ?_
    rotate_left
    ·intro w hSw; (try dsimp only at hSw); go_simp; try with_reducible rfl
    go_frame
    refine wpAnyH_ready (rs := [19]) zk zs ?_
    refine AllReadyH.cons (o := ⟨some 14, _, _, _, _, _⟩) rfl (fun K hK => ?_) AllReadyH.nil
    have HC := zh H
    have HT := ((Held.sub H (fun f hf => absurd hf (List.not_mem_nil)) : Held w [] UA1).pair UA1 (0:Int) (0:Int) 48 rfl)
    have HCB : Below UA1 UA1 (UA1.alloc (.cells #[(0:Int), (0:Int)] 48)) := (Below.refl _ _).alloc (Nat.le_refl _) _
    have hTW : W6.heap.size ≤ UA1.heap.size := HZx.out _ HBx.out
    replace HBx := zh (HBx.out.alloc hTW (.cells #[(0:Int), (0:Int)] 48))
    replace H := H.alloc (.cells #[(0:Int), (0:Int)] 48)
    replace HB := HB.alloc (HS.out _ HB) (.cells #[(0:Int), (0:Int)] 48)
    go_simp
    refine hK.out _ _ (⟨H.c, H.c, H.c, H.c, H.c, H.c, H.c, H.c⟩) (fun hNew => ?_)
    clear hK K hHeld
    have hHeld := hNew
    clear hNew
    try go_frame
    obtain ⟨TA2, hTA2⟩ : ∃ T, UA1.heap.size = T := ⟨_, rfl⟩
    obtain ⟨UA2, hUA2⟩ : ∃ U, UA1.alloc (.cells #[(0:Int), (0:Int)] 48) = U := ⟨_, rfl⟩
    rw [hUA2] at H HB hHeld HT HCB HBx ⊢
    rw [hTA2] at HT HCB hTW ⊢
    have hTE := hTA2
    clear hTA2 hUA2
    refine wpAnyH_ready (rs := [20]) zk zs ?_
    refine AllReadyH.cons (o := ⟨none, _, _, _, _, _⟩) rfl (fun K hK => ?_) AllReadyH.nil
    obtain ⟨kt0, kt1⟩ := HT.cells2 TA2
    obtain ⟨ft0, ft1⟩ := HT.frozens2 TA2
    have lt := zA0 kt0
    go_simp
    have HCB2 := (HCB.setCell (p := ⟨TA2, 0, none⟩) (Nat.le_refl _) pi).setCell (p := ⟨TA2, 1, none⟩) (Nat.le_refl _) qi
    replace H := HC.out.below (HCB2.mono (Nat.le_of_eq hTE))
    have t0 : ((World.setCell UA2 ⟨TA2, 0, none⟩ pi).setCell ⟨TA2, 1, none⟩ qi).cell? ⟨TA2, 0, none⟩ = some (.int .i64 pi) := zA3 (World.cell?_setCell_same' _ _ _ (by rw [kt0]; rfl)) (Or.inr zd) _
    have t1 : ((World.setCell UA2 ⟨TA2, 0, none⟩ pi).setCell ⟨TA2, 1, none⟩ qi).cell? ⟨TA2, 1, none⟩ = some (.int .i64 qi) := World.cell?_setCell_same' _ _ _ (by rw [zA3 kt1 (Or.inr zd)]; rfl)
    replace HBx := zh ((HBx.out.setCell (p := ⟨TA2, 0, none⟩) hTW pi).setCell (p := ⟨TA2, 1, none⟩) hTW qi)
    refine hK.out _ _ (⟨H.c, H.c, H.c, H.c, H.c, H.c, H.c, H.c⟩) (fun hNew => ?_)
    clear hK K hHeld
    have hHeld := hNew
    clear hNew
    try go_frame
    refine wpAnyH_take (i := 21) (oi := ⟨some 15, _, _, _, _, _⟩) (v := ?_) rfl zk zk zk (fun _ _ _ h => h) (Or.inl ⟨zr, ?_⟩) za ?_
    rotate_left
    ·intro w hSw; (try dsimp only at hSw); go_simp; try with_reducible rfl
    go_frame
    refine wpAnyH_done zk ?_ _
    clear hHeld
    clear HT HCB kt0 kt1 ft0 ft1 lt HC HB HWD HS HU
    obtain ⟨V2, hV2⟩ : ∃ V2, (World.setCell UA2 ⟨TA2, 0, none⟩ pi).setCell ⟨TA2, 1, none⟩ qi = V2 := ⟨_, rfl⟩
    rw [hV2] at H HBx t0 t1 ⊢
    clear hV2
    obtain ⟨T, hT⟩ : ∃ T, TA2 = T := ⟨_, rfl⟩
    rw [hT] at t0 t1 ⊢
    clear hT
    replace H := (H.add (f := .cell T 0 pi) t0).add (f := .cell T 1 qi) t1
    clear t0 t1
    obtain ⟨k0, k1⟩ := H.cells2 T
    have l0 := zA0 k0
    have kb := H.cell w5 2 _
    have lb := zA0 kb
    have r0 := H.cell g2 (o2 + i * 2) _
    have r1 := H.cell g2 (o2 + i * 2 + 1) _
    go_upto_region 16 with fail
    go_quiet (fail)
    clear k0 k1 l0 kb lb r0 r1
    go_wp2
    go_roundw
    case rel => exact ⟨i + 1, zo, by go_num, zA7 HBx.out nq⟩
    case measure => simp [intOf]; omega
   ·
    have HC := zh H
    have HT := ((Held.sub H (fun f hf => absurd hf (List.not_mem_nil)) : Held w [] WD).pair WD (0:Int) (0:Int) 48 rfl)
    have HCB : Below WD WD (WD.alloc (.cells #[(0:Int), (0:Int)] 48)) := (Below.refl _ _).alloc (Nat.le_refl _) _
    have hTW : W6.heap.size ≤ WD.heap.size := HZx.out _ HBx.out
    replace HBx := zh (HBx.out.alloc hTW (.cells #[(0:Int), (0:Int)] 48))
    replace H := H.alloc (.cells #[(0:Int), (0:Int)] 48)
    replace HB := HB.alloc (HS.out _ HB) (.cells #[(0:Int), (0:Int)] 48)
    go_simp
    refine hK.out _ _ (⟨H.c, H.c, H.c, H.c, H.c, H.c, H.c, H.c⟩) (fun hNew => ?_)
    clear hK K hHeld
    have hHeld := hNew
    clear hNew
    try go_frame
    obtain ⟨TA1, hTA1⟩ : ∃ T, WD.heap.size = T := ⟨_, rfl⟩
    obtain ⟨UA1, hUA1⟩ : ∃ U, WD.alloc (.cells #[(0:Int), (0:Int)] 48) = U := ⟨_, rfl⟩
    rw [hUA1] at H HB hHeld HT HCB HBx ⊢
    rw [hTA1] at HT HCB hTW ⊢
    have hTE := hTA1
    clear hTA1 hUA1
    refine wpAnyH_ready (rs := [15]) zk zs ?_
    refine AllReadyH.cons (o := ⟨some 113, _, _, _, _, _⟩) rfl (fun K hK => ?_) AllReadyH.nil
    go_simp
    with_reducible refine (R1.out _ _ _ (H.days (ao := b3) (X := y.GV) (n := (y.ns s)) (cap := q3))).mono ?_
    rintro e UA2 ⟨rfl, hb⟩
    replace H := H.below hb
    replace HB := HB.trans (hb.mono (HS.out _ HB))
    replace HBx := zh (HBx.out.trans (hb.mono (HZx.out _ HBx.out)))
    replace HT := HT.below hb
    replace HCB := HCB.trans (hb.mono (by have := HCB.size; omega))
    clear hb
    go_wp2_with fail
    refine hK.out _ _ (⟨H.c, H.c, H.c, H.c, H.c, H.c, H.c, H.c⟩) (fun hNew => ?_)
    clear hK K hHeld
    have hHeld := hNew
    clear hNew
    try go_frame
    refine wpAnyH_take (i := 16) (oi := ⟨some 97, _, _, _, _, _⟩) (v := ?_) rfl zk zk zk (fun _ _ _ h => h) (Or.inl ⟨zr, ?_⟩) za ?_
    rotate_left
    ·intro w hSw; (try dsimp only at hSw); go_simp; try with_reducible rfl
    go_frame
    refine wpAnyH_take (i := 17) (oi := ⟨some 114, _, _, _, _, _⟩) (v := ?_) rfl zk zk zk (fun _ _ _ h => h) (Or.inl ⟨zr, ?_⟩) za ?_
    rotate_left
    ·intro w hSw; (try dsimp only at hSw); go_simp; try with_reducible rfl
    go_frame
    refine wpAnyH_take (i := 18) (oi := ⟨some 115, _, _, _, _, _⟩) (v := ?_) rfl zk zk zk (fun _ _ _ h => h) (Or.inl ⟨zr, ?_⟩) za ?_
    rotate_left
    ·intro w hSw; (try dsimp only at hSw); go_simp; try with_reducible rfl
    go_frame
    refine wpAnyH_ready (rs := [20]) zk zs ?_
    refine AllReadyH.cons (o := ⟨none, _, _, _, _, _⟩) rfl (fun K hK => ?_) AllReadyH.nil
    obtain ⟨kt0, kt1⟩ := HT.cells2 TA1
    obtain ⟨ft0, ft1⟩ := HT.frozens2 TA1
    have lt := zA0 kt0
    go_simp
    have HCB2 := (HCB.setCell (p := ⟨TA1, 0, none⟩) (Nat.le_refl _) pi).setCell (p := ⟨TA1, 1, none⟩) (Nat.le_refl _) qi
    replace H := HC.out.below (HCB2.mono (Nat.le_of_eq hTE))
    have t0 : ((World.setCell UA2 ⟨TA1, 0, none⟩ pi).setCell ⟨TA1, 1, none⟩ qi).cell? ⟨TA1, 0, none⟩ = some (.int .i64 pi) := zA3 (World.cell?_setCell_same' _ _ _ (by rw [kt0]; rfl)) (Or.inr zd) _
    have t1 : ((World.setCell UA2 ⟨TA1, 0, none⟩ pi).setCell ⟨TA1, 1, none⟩ qi).cell? ⟨TA1, 1, none⟩ = some (.int .i64 qi) := World.cell?_setCell_same' _ _ _ (by rw [zA3 kt1 (Or.inr zd)]; rfl)
    replace HBx := zh ((HBx.out.setCell (p := ⟨TA1, 0, none⟩) hTW pi).setCell (p := ⟨TA1, 1, none⟩) hTW qi)
    refine hK.out _ _ (⟨H.c, H.c, H.c, H.c, H.c, H.c, H.c, H.c⟩) (fun hNew => ?_)
    clear hK K hHeld
    have hHeld := hNew
    clear hNew
    try go_frame
    refine wpAnyH_take (i := 21) (oi := ⟨some 15, _, _, _, _, _⟩) (v := ?_) rfl zk zk zk (fun _ _ _ h => h) (Or.inl ⟨zr, ?_⟩) za ?_
    rotate_left
    ·intro w hSw; (try dsimp only at hSw); go_simp; try with_reducible rfl
    go_frame
    refine wpAnyH_done zk ?_ _
    clear hHeld
    clear HT HCB kt0 kt1 ft0 ft1 lt HC HB HWD HS HU
    obtain ⟨V2, hV2⟩ : ∃ V2, (World.setCell UA2 ⟨TA1, 0, none⟩ pi).setCell ⟨TA1, 1, none⟩ qi = V2 := ⟨_, rfl⟩
    rw [hV2] at H HBx t0 t1 ⊢
    clear hV2
    obtain ⟨T, hT⟩ : ∃ T, TA1 = T := ⟨_, rfl⟩
    rw [hT] at t0 t1 ⊢
    clear hT
    replace H := (H.add (f := .cell T 0 pi) t0).add (f := .cell T 1 qi) t1
    clear t0 t1
    obtain ⟨k0, k1⟩ := H.cells2 T
    have l0 := zA0 k0
    have kb := H.cell w5 2 _
    have lb := zA0 kb
    have r0 := H.cell g2 (o2 + i * 2) _
    have r1 := H.cell g2 (o2 + i * 2 + 1) _
    go_upto_region 16 with fail
    go_quiet (fail)
    clear k0 k1 l0 kb lb r0 r1
    go_wp2
    go_roundw
    case rel => exact ⟨i + 1, zo, by go_num, zA7 HBx.out nq⟩
    case measure => simp [intOf]; omega
  ·obtain rfl : i = x.q + 1 := zo
   go_wp2
   go_ret
   exact ⟨rfl, H.old⟩
theorem scways_walk (t : Tm) (c : Ca) (aR : Option Addr) (cR : Nat) (aD : Option Addr) (cD : Nat) (z : Int) (w : World) (hL : FactsS w) (hC : CalAt w c aR cR aD cD) (bz : 0 ≤ z ∧ z < 256) : Calls Tryz.prog 8 #[.agg #[t.mo, t.ra, t.ki, t.co, t.st, t.en, t.ms, t.bk, t.lg, t.eo, t.ro], .agg #[(c.o 0), (c.o 1), (c.o 2), (c.o 3), (c.o 4), (c.o 5), (c.o 6), .slice aR c.nr cR, .slice aD c.nd cD], .int .u8 z] w fun e w' => e = .returned true ∧ Below w w w' := by
 by_cases hc : t.code = 0
 ·by_cases h : c.Few ∧ c.May ∧ t.en - t.st ≤ 31 * 40
  ·obtain ⟨x, hx, hS⟩ := plan_is t c (fun _ => by have := h.2.2; omega)
   have hk : 0 ≤ z % 7 ∧ z % 7 ≤ 6 := ⟨zo, zo⟩
   obtain ⟨y, hy, hSy, hyq, hyd, hyV⟩ := ways_plan t c x (z % 7) hx hS hc hk
   by_cases hb : x.code t = 0 ∧ y.code (Tm.mk t.mo t.ra t.ki (z % 7) t.st t.en t.ms t.bk t.lg t.eo t.ro) = 0
   ·exact scways_good t c aR cR aD cD z (z % 7) x w hL hC hc h.1 h.2.1 (by have := h.2.2; omega) hx hS hk rfl bz y hy hSy hyq hyd hyV hb.1 hb.2
   ·exact scways_bad t c aR cR aD cD z (z % 7) x w hL hC hc h.1 h.2.1 (by have := h.2.2; omega) hx hS hk rfl bz y hy hSy hyq hyd hyV hb
  ·exact scways_far t c aR cR aD cD z w hL hC hc ⟨fun g => (by cases g), fun g => absurd g h⟩
 ·exact scways_no t c aR cR aD cD z _ w hL hC rfl hc
end Go.Proofs.YtpfgdfpaoldhcaaGreatDoor
