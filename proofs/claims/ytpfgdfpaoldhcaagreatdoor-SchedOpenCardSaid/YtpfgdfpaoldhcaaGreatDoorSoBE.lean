/- Several texts in one: ScOpen1. -/
import Derived.Test.YtpfgdfpaoldhcaaGreatDoorSoBD
set_option maxHeartbeats 8000000
set_option maxRecDepth 100000
set_option linter.unusedVariables false
set_option linter.unusedSimpArgs false
namespace Go.Proofs.YtpfgdfpaoldhcaaGreatDoor
open Go.RowKit
theorem zQv (t : Tm) (c : Ca) (aR : Option Addr) (cR : Nat) (aD : Option Addr) (cD : Nat) (z : Int) (y : Int) (w : World) (hL : FactsS w) (hC : CalAt w c aR cR aD cD) (hc : t.code = y) (h0 : y ≠ 0) : Calls Tryz.prog 7 #[.agg #[.int .i64 t.mo, .int .i64 t.ra, .int .i64 t.ki, .int .i64 t.co, .int .i64 t.st, .int .i64 t.en, .int .i64 t.ms, .bool t.bk, .bool t.lg, .bool t.eo, .int .i64 t.ro], .agg #[.bool (c.o 0), .bool (c.o 1), .bool (c.o 2), .bool (c.o 3), .bool (c.o 4), .bool (c.o 5), .bool (c.o 6), .slice aR c.nr cR, .slice aD c.nd cD], .int .u8 z] w fun e w' => e = .returned (.bool true) ∧ Below w.heap.size w w' := by
 have H := ((Held.start w).add (f := zA9) hL).add (f := calF c aR cR aD cD) hC
 have CK := Lib.hid (fun v => zBw t.mo t.ra t.ki t.co t.st t.en t.ms t.bk t.lg t.eo t.ro y v hc)
 have CNe : Hid ((y != 0) = true) := Lib.hid (by simpa using h0)
 have CE : Hid ((y == 0) = false) := Lib.hid (by simpa using h0)
 clear hc
 clear hL hC
 go_enter Tryz.func7, Tryz.ntmps7
 go_wp2_with fail
 replace H := H.box_11 (w.heap.size) (.int .i64 t.mo) (.int .i64 t.ra) (.int .i64 t.ki) (.int .i64 t.co) (.int .i64 t.st) (.int .i64 t.en) (.int .i64 t.ms) (.bool t.bk) (.bool t.lg) (.bool t.eo) (.int .i64 t.ro) 23 rfl
 replace H := H.box_9 (w.heap.size + 1) (.bool (c.o 0)) (.bool (c.o 1)) (.bool (c.o 2)) (.bool (c.o 3)) (.bool (c.o 4)) (.bool (c.o 5)) (.bool (c.o 6)) (.slice aR c.nr cR) (.slice aD c.nd cD) 28 (by simp)
 (with_reducible refine (zBb _ (H.factsS)).mono ?_)
 rintro e w1 ⟨rfl, hb⟩
 replace H := H.below hb
 clear hb
 obtain ⟨ct0, ct1, ct2, ct3, ct4, ct5, ct6, ct7, ct8, ct9, ct10⟩ := H.cells11 (w.heap.size)
 have lt := zA0 ct0
 go_wp2_with fail
 clear ct0 ct1 ct2 ct3 ct4 ct5 ct6 ct7 ct8 ct9 ct10 lt
 (with_reducible refine (CK.out _).mono ?_)
 rintro e w2 ⟨rfl, hb⟩
 replace H := H.below hb
 clear hb
 have cn := CNe.out
 have ce := CE.out
 go_wp2
 go_ret
 exact ⟨rfl, H.old⟩
theorem zN6 (t : Tm) (c : Ca) (aR : Option Addr) (cR : Nat) (aD : Option Addr) (cD : Nat) (z : Int) (w : World) (hL : FactsS w) (hC : CalAt w c aR cR aD cD) (hc : t.code = 0) (hb : false = true ↔ (c.Few ∧ c.May ∧ t.en - t.st ≤ 31 * 60)) : Calls Tryz.prog 7 #[.agg #[.int .i64 t.mo, .int .i64 t.ra, .int .i64 t.ki, .int .i64 t.co, .int .i64 t.st, .int .i64 t.en, .int .i64 t.ms, .bool t.bk, .bool t.lg, .bool t.eo, .int .i64 t.ro], .agg #[.bool (c.o 0), .bool (c.o 1), .bool (c.o 2), .bool (c.o 3), .bool (c.o 4), .bool (c.o 5), .bool (c.o 6), .slice aR c.nr cR, .slice aD c.nd cD], .int .u8 z] w fun e w' => e = .returned (.bool true) ∧ Below w.heap.size w w' := by
 have H := ((Held.start w).add (f := zA9) hL).add (f := calF c aR cR aD cD) hC
 have CK := Lib.hid (fun v => zBw t.mo t.ra t.ki t.co t.st t.en t.ms t.bk t.lg t.eo t.ro 0 v hc)
 have SHT := Lib.hid (fun v h => zCf t c aR cR aD cD 60 false v h hc (by omega) hb)
 clear hc hb
 clear hL hC
 go_enter Tryz.func7, Tryz.ntmps7
 go_wp2_with fail
 replace H := H.box_11 (w.heap.size) (.int .i64 t.mo) (.int .i64 t.ra) (.int .i64 t.ki) (.int .i64 t.co) (.int .i64 t.st) (.int .i64 t.en) (.int .i64 t.ms) (.bool t.bk) (.bool t.lg) (.bool t.eo) (.int .i64 t.ro) 23 rfl
 replace H := H.box_9 (w.heap.size + 1) (.bool (c.o 0)) (.bool (c.o 1)) (.bool (c.o 2)) (.bool (c.o 3)) (.bool (c.o 4)) (.bool (c.o 5)) (.bool (c.o 6)) (.slice aR c.nr cR) (.slice aD c.nd cD) 28 (by simp)
 (with_reducible refine (zBb _ (H.factsS)).mono ?_)
 rintro e w1 ⟨rfl, hb⟩
 replace H := H.below hb
 clear hb
 obtain ⟨ct0, ct1, ct2, ct3, ct4, ct5, ct6, ct7, ct8, ct9, ct10⟩ := H.cells11 (w.heap.size)
 have lt := zA0 ct0
 go_wp2_with fail
 clear ct0 ct1 ct2 ct3 ct4 ct5 ct6 ct7 ct8 ct9 ct10 lt
 (with_reducible refine (CK.out _).mono ?_)
 rintro e w2 ⟨rfl, hb⟩
 replace H := H.below hb
 clear hb
 obtain ⟨ct0, ct1, ct2, ct3, ct4, ct5, ct6, ct7, ct8, ct9, ct10⟩ := H.cells11 (w.heap.size)
 have lt := zA0 ct0
 obtain ⟨cc0, cc1, cc2, cc3, cc4, cc5, cc6, cc7, cc8⟩ := H.cells9 (w.heap.size + 1)
 have lc := zA0 cc0
 go_wp2_with fail
 clear ct0 ct1 ct2 ct3 ct4 ct5 ct6 ct7 ct8 ct9 ct10 lt cc0 cc1 cc2 cc3 cc4 cc5 cc6 cc7 cc8 lc
 (with_reducible refine (SHT.out _ (H.cal (c := c) (aR := aR) (cR := cR) (aD := aD) (cD := cD))).mono ?_)
 rintro e w3 ⟨rfl, hb⟩
 replace H := H.below hb
 clear hb
 go_wp2
 go_ret
 exact ⟨rfl, H.old⟩
theorem zKb (t : Tm) (c : Ca) (aR : Option Addr) (cR : Nat) (aD : Option Addr) (cD : Nat) (z u : Int) (w : World) (hL : FactsS w) (hC : CalAt w c aR cR aD cD) (hc : t.code = 0) (hF : c.Few) (hM : c.May) (hsh : t.en - t.st ≤ 1860) (huz : z % 5 = u) (hu : 0 ≤ u ∧ u ≤ 4) (bz : 0 ≤ z ∧ z < 256) : Calls Tryz.prog 7 #[.agg #[.int .i64 t.mo, .int .i64 t.ra, .int .i64 t.ki, .int .i64 t.co, .int .i64 t.st, .int .i64 t.en, .int .i64 t.ms, .bool t.bk, .bool t.lg, .bool t.eo, .int .i64 t.ro], .agg #[.bool (c.o 0), .bool (c.o 1), .bool (c.o 2), .bool (c.o 3), .bool (c.o 4), .bool (c.o 5), .bool (c.o 6), .slice aR c.nr cR, .slice aD c.nd cD], .int .u8 z] w fun e w' => e = .returned (.bool true) ∧ Below w.heap.size w w' := by
 have H := ((Held.start w).add (f := zA9) hL).add (f := calF c aR cR aD cD) hC
 have CK := Lib.hid (fun v => zBw t.mo t.ra t.ki t.co t.st t.en t.ms t.bk t.lg t.eo t.ro 0 v hc)
 have SHT := Lib.hid (fun v h => zCf t c aR cR aD cD 60 true v h hc (by omega) ⟨fun _ => ⟨hF, hM, by omega⟩, fun _ => rfl⟩)
 have h1 : (Tm.mk t.mo t.ra t.ki t.co t.st t.en t.ms t.bk t.lg t.eo 0).code = 0 := t.code_ro hc ⟨by omega, by omega⟩
 have h2 : (Tm.mk t.mo t.ra t.ki t.co t.st t.en t.ms t.bk t.lg t.eo u).code = 0 := t.code_ro hc hu
 obtain ⟨x, hx, hS⟩ := zPx (Tm.mk t.mo t.ra t.ki t.co t.st t.en t.ms t.bk t.lg t.eo 0) c (fun _ => by show t.en - t.st ≤ 2000; omega)
 have hlk : (Tm.mk t.mo t.ra t.ki t.co t.st t.en t.ms t.bk t.lg t.eo u).Like (Tm.mk t.mo t.ra t.ki t.co t.st t.en t.ms t.bk t.lg t.eo 0) := ⟨rfl, rfl, rfl, rfl, rfl, rfl, rfl⟩
 have hy : PlanIs (Tm.mk t.mo t.ra t.ki t.co t.st t.en t.ms t.bk t.lg t.eo u) (wcal oz) x := hx.free hlk rfl hu h1
 obtain ⟨fV, -⟩ := hx.none rfl h1
 have hcode := hx.told0 rfl h1
 obtain ⟨s, hs⟩ : ∃ s, (Tm.mk t.mo t.ra t.ki t.co t.st t.en t.ms t.bk t.lg t.eo 0) = s := ⟨_, rfl⟩
 obtain ⟨y, hyt⟩ : ∃ y, (Tm.mk t.mo t.ra t.ki t.co t.st t.en t.ms t.bk t.lg t.eo u) = y := ⟨_, rfl⟩
 have hSh := hS h1
 have O1 : Hid (∀ v, FactsS v → CalAt v c aR cR aD cD → Calls Tryz.prog 11 #[.agg #[.int .i64 t.mo, .int .i64 t.ra, .int .i64 t.ki, .int .i64 t.co, .int .i64 t.st, .int .i64 t.en, .int .i64 t.ms, .bool t.bk, .bool t.lg, .bool t.eo, .int .i64 0], .agg #[.bool (c.o 0), .bool (c.o 1), .bool (c.o 2), .bool (c.o 3), .bool (c.o 4), .bool (c.o 5), .bool (c.o 6), .slice aR c.nr cR, .slice aD c.nd cD]] v fun e w' => PlanOut x s v.heap.size e w' ∧ Below v.heap.size v w') := Lib.hid (fun v h g => hs ▸ zDg (Tm.mk t.mo t.ra t.ki t.co t.st t.en t.ms t.bk t.lg t.eo 0) c aR cR aD cD x v h g hM hx hS)
 have O2 : Hid (∀ v, FactsS v → Calls Tryz.prog 11 #[.agg #[.int .i64 t.mo, .int .i64 t.ra, .int .i64 t.ki, .int .i64 t.co, .int .i64 t.st, .int .i64 t.en, .int .i64 t.ms, .bool t.bk, .bool t.lg, .bool t.eo, .int .i64 u], .agg #[.bool false, .bool false, .bool false, .bool false, .bool false, .bool false, .bool false, .slice none 0 0, .slice none 0 0]] v fun e w' => PlanOut x s v.heap.size e w' ∧ Below v.heap.size v w') := Lib.hid (fun v h => (zDg (Tm.mk t.mo t.ra t.ki t.co t.st t.en t.ms t.bk t.lg t.eo u) (wcal oz) none 0 none 0 x v h (zGk _ _ _ _) ((zLt oz).2 ⟨0, by decide, rfl⟩) hy (fun _ => hSh)).mono (fun e w' hh => ⟨hs ▸ hh.1.turn hlk (h2.trans h1.symm), hh.2⟩))
 have n1 : x.n s ≤ 2000 := by unfold Pl.n; have := hSh.q; split <;> omega
 have n2 : x.np s ≤ 2000 := by unfold Pl.np; have := hSh.q; split <;> omega
 have n3 : x.ng s ≤ 2000 := by unfold Pl.ng; have := hSh.k; unfold Pl.ns; split <;> (try split) <;> omega
 have RD : Hid (∀ i, i < x.n s → s.dd x.X x.q i = x.V i) := Lib.hid (fun i hi => by
  have hn : x.n s ≤ x.q + 2 := by unfold Pl.n; split <;> omega
  rw [← hs]
  exact (fV i (by omega)).1.symm)
 have HZ : Hid (x.code s = 0 ∨ (x.code s = 5 ∧ t.co = 6)) := Lib.hid (by rw [← hs]; exact hcode)
 have HU := Lib.hid huz
 have HF := Lib.hid hL
 have HC := Lib.hid hC
 have PO := Lib.hid (hs ▸ hx.pos : (∀ j, j < x.n s → 1 ≤ s.dd x.X x.q j) ∧ (∀ j, j < x.n s → 1 ≤ x.V j) ∧ ∀ j, j < x.ng s → 1 ≤ x.GV j)
 obtain ⟨y5, hy5⟩ : ∃ y, x.code s = y := ⟨_, rfl⟩
 have HY := Lib.hid hy5
 clear hc hF hM hsh h1 h2 hx hS hlk hy fV hcode hs hyt hSh huz hu
 clear hL hC
 go_enter Tryz.func7, Tryz.ntmps7
 go_wp2_with fail
 replace H := H.box_11 (w.heap.size) (.int .i64 t.mo) (.int .i64 t.ra) (.int .i64 t.ki) (.int .i64 t.co) (.int .i64 t.st) (.int .i64 t.en) (.int .i64 t.ms) (.bool t.bk) (.bool t.lg) (.bool t.eo) (.int .i64 t.ro) 23 rfl
 replace H := H.box_9 (w.heap.size + 1) (.bool (c.o 0)) (.bool (c.o 1)) (.bool (c.o 2)) (.bool (c.o 3)) (.bool (c.o 4)) (.bool (c.o 5)) (.bool (c.o 6)) (.slice aR c.nr cR) (.slice aD c.nd cD) 28 (by simp)
 (with_reducible refine (zBb _ (H.factsS)).mono ?_)
 rintro e w1 ⟨rfl, hb⟩
 replace H := H.below hb
 clear hb
 obtain ⟨ct0, ct1, ct2, ct3, ct4, ct5, ct6, ct7, ct8, ct9, ct10⟩ := H.cells11 (w.heap.size)
 have lt := zA0 ct0
 go_wp2_with fail
 clear ct0 ct1 ct2 ct3 ct4 ct5 ct6 ct7 ct8 ct9 ct10 lt
 (with_reducible refine (CK.out _).mono ?_)
 rintro e w2 ⟨rfl, hb⟩
 replace H := H.below hb
 clear hb
 obtain ⟨ct0, ct1, ct2, ct3, ct4, ct5, ct6, ct7, ct8, ct9, ct10⟩ := H.cells11 (w.heap.size)
 have lt := zA0 ct0
 obtain ⟨cc0, cc1, cc2, cc3, cc4, cc5, cc6, cc7, cc8⟩ := H.cells9 (w.heap.size + 1)
 have lc := zA0 cc0
 go_wp2_with fail
 clear ct0 ct1 ct2 ct3 ct4 ct5 ct6 ct7 ct8 ct9 ct10 lt cc0 cc1 cc2 cc3 cc4 cc5 cc6 cc7 cc8 lc
 (with_reducible refine (SHT.out _ (H.cal (c := c) (aR := aR) (cR := cR) (aD := aD) (cD := cD))).mono ?_)
 rintro e w3 ⟨rfl, hb⟩
 replace H := H.below hb
 clear hb
 obtain ⟨ct0, ct1, ct2, ct3, ct4, ct5, ct6, ct7, ct8, ct9, ct10⟩ := H.cells11 (w.heap.size)
 have lt := zA0 ct0
 obtain ⟨cc0, cc1, cc2, cc3, cc4, cc5, cc6, cc7, cc8⟩ := H.cells9 (w.heap.size + 1)
 have lc := zA0 cc0
 go_wp2_with fail
 clear ct0 ct1 ct2 ct3 ct4 ct5 ct6 ct7 ct8 ct9 ct10 lt cc0 cc1 cc2 cc3 cc4 cc5 cc6 cc7 cc8 lc
 have HTW : Hid (w.heap.size ≤ w3.heap.size) := Lib.hid H.size
 replace H := H.box_11 (w3.heap.size) (.int .i64 t.mo) (.int .i64 t.ra) (.int .i64 t.ki) (.int .i64 t.co) (.int .i64 t.st) (.int .i64 t.en) (.int .i64 t.ms) (.bool t.bk) (.bool t.lg) (.bool t.eo) (.int .i64 0) 23 rfl
 (with_reducible refine (O1.out _ (H.factsS) (H.cal (c := c) (aR := aR) (cR := cR) (aD := aD) (cD := cD))).mono ?_)
 rintro e w4 ⟨hp, hb⟩
 obtain ⟨a0, a1, a2, a3, p0, p1, p2, p3, rfl, hd0, hd1, hd2, hd3, hbl⟩ := hp
 have an : ∀ g, a2 = some g → g.block ≠ w3.heap.size := fun g hg => by have := hbl g hg; simp at this; omega
 replace H := ((((H.below hb).add (f := zA4 a0 (s.dd x.X x.q) (x.n s) p0) hd0).add (f := zA4 a1 x.V (x.n s) p1) hd1).add (f := ratF a2 x.P x.Q (x.np s) p2) hd2).add (f := zA4 a3 x.GV (x.ng s) p3) hd3
 clear hb hd0 hd1 hd2 hd3 hbl
 rw [hy5]
 go_upto_region 7 with fail
 replace H := H.box_7 (w4.heap.size) (.slice a0 (x.n s) p0) (.slice a1 (x.n s) p1) (.slice a2 (x.np s) p2) (.bool (x.eo s)) (.int .i64 (x.en s)) (.int .i64 (x.f s)) (.slice a3 (x.ng s) p3) 35 rfl
 replace H : Held w [.cell (w3.heap.size) 10 (.int .i64 0), .cell (w3.heap.size) 0 (.int .i64 t.mo), .cell (w3.heap.size) 1 (.int .i64 t.ra), .cell (w3.heap.size) 2 (.int .i64 t.ki), .cell (w3.heap.size) 3 (.int .i64 t.co), .cell (w3.heap.size) 4 (.int .i64 t.st), .cell (w3.heap.size) 5 (.int .i64 t.en), .cell (w3.heap.size) 6 (.int .i64 t.ms), .cell (w3.heap.size) 7 (.bool t.bk), .cell (w3.heap.size) 8 (.bool t.lg), .cell (w3.heap.size) 9 (.bool t.eo), .cell (w.heap.size + 1) 0 (.bool (c.o 0)), .cell (w.heap.size + 1) 1 (.bool (c.o 1)), .cell (w.heap.size + 1) 2 (.bool (c.o 2)), .cell (w.heap.size + 1) 3 (.bool (c.o 3)), .cell (w.heap.size + 1) 4 (.bool (c.o 4)), .cell (w.heap.size + 1) 5 (.bool (c.o 5)), .cell (w.heap.size + 1) 6 (.bool (c.o 6)), .cell (w.heap.size + 1) 7 (.slice aR c.nr cR), .cell (w.heap.size + 1) 8 (.slice aD c.nd cD), .cell (w.heap.size) 3 (.int .i64 t.co), .cell (w4.heap.size) 0 (.slice a0 (x.n s) p0), .cell (w4.heap.size) 1 (.slice a1 (x.n s) p1), .cell (w4.heap.size) 2 (.slice a2 (x.np s) p2), .cell (w4.heap.size) 3 (.bool (x.eo s)), .cell (w4.heap.size) 4 (.int .i64 (x.en s)), .cell (w4.heap.size) 5 (.int .i64 (x.f s)), .cell (w4.heap.size) 6 (.slice a3 (x.ng s) p3), .free (w3.heap.size) 10, zA4 a0 (s.dd x.X x.q) (x.n s) p0, zA4 a1 x.V (x.n s) p1, ratF a2 x.P x.Q (x.np s) p2, zA4 a3 x.GV (x.ng s) p3, calF c aR cR aD cD, zA9] _ := H.sub (fun f hf => by
  simp only [List.mem_cons, List.not_mem_nil, or_false] at hf
  rcases hf with rfl | rfl | rfl | rfl | rfl | rfl | rfl | rfl | rfl | rfl | rfl | rfl | rfl | rfl | rfl | rfl | rfl | rfl | rfl | rfl | rfl | rfl | rfl | rfl | rfl | rfl | rfl | rfl | rfl | rfl | rfl | rfl | rfl | rfl | rfl
  all_goals (repeat (first | with_reducible exact List.mem_cons_self | with_reducible apply List.mem_cons_of_mem)))
 revert H
 generalize World.alloc _ _ = W5
 intro H
 have kt := H.cell (w3.heap.size) 10 (.int .i64 0)
 have ft := H.frozen (w3.heap.size) 10
 have lt := zA0 kt
 have huz := HU.out
 go_upto_region 8 with fail
 clear kt ft lt huz
 replace H := Held.put17 H (.int .i64 u) HTW.out (zA1 (Or.inr (by decide)) (zA1 (Or.inr (by decide)) (zA1 (Or.inr (by decide)) (zA1 (Or.inr (by decide)) (zA1 (Or.inr (by decide)) (zA1 (Or.inr (by decide)) (zA1 (Or.inr (by decide)) (zA1 (Or.inr (by decide)) (zA1 (Or.inr (by decide)) (zA1 (Or.inr (by decide)) (zA1 (Or.inr (by decide)) (zA1 (Or.inr (by decide)) (zA1 (Or.inr (by decide)) (zA1 (Or.inr (by decide)) (zA1 (Or.inr (by decide)) (zA1 (Or.inr (by decide)) (zA1 (Or.inr (by decide)) (zA1 (Or.inr (by decide)) (zA1 (Or.inr (by decide)) (zA1 (Or.inr (by decide)) (zA1 (Or.inr (by decide)) (zA1 (Or.inr (by decide)) (zA1 (Or.inr (by decide)) (zA1 (Or.inr (by decide)) (zA1 (Or.inr (by decide)) (zA1 (Or.inr (by decide)) (zA1 (Or.inr (by decide)) (zA1 trivial (zA1 (Or.inr (fun W u ho h => zA6 h ho (fun j hj e => by injection e with _ e; have := PO.out.1 j hj; omega) u)) (zA1 (Or.inr (fun W u ho h => zA6 h ho (fun j hj e => by injection e with _ e; have := PO.out.2.1 j hj; omega) u)) (zA1 (Or.inr (fun W u _ h => h.set an u)) (zA1 (Or.inr (fun W u ho h => zA6 h ho (fun j hj e => by injection e with _ e; have := PO.out.2.2 j hj; omega) u)) (zA1 (Or.inl HC.out) (zA1 (Or.inl HF.out) (fun f hf => absurd hf (List.not_mem_nil))))))))))))))))))))))))))))))))))))
 revert H
 generalize World.setCell _ _ _ = W6
 intro H
 obtain ⟨cs0, cs1, cs2, cs3, cs4, cs5, cs6, cs7, cs8, cs9, cs10⟩ := H.cells11 (w3.heap.size)
 have ls := zA0 cs0
 go_wp2_with fail
 clear cs0 cs1 cs2 cs3 cs4 cs5 cs6 cs7 cs8 cs9 cs10 ls
 (with_reducible refine (O2.out _ (H.factsS)).mono ?_)
 rintro e w5 ⟨hp, hb⟩
 obtain ⟨b0, b1, b2, b3, q0, q1, q2, q3, rfl, hd0, hd1, hd2, hd3, hbl⟩ := hp
 replace H := ((((H.below hb).add (f := zA4 b0 (s.dd x.X x.q) (x.n s) q0) hd0).add (f := zA4 b1 x.V (x.n s) q1) hd1).add (f := ratF b2 x.P x.Q (x.np s) q2) hd2).add (f := zA4 b3 x.GV (x.ng s) q3) hd3
 clear hb hd0 hd1 hd2 hd3 hbl
 rw [hy5]
 go_upto_region 9 with fail
 replace H := H.box_7 (w5.heap.size) (.slice b0 (x.n s) q0) (.slice b1 (x.n s) q1) (.slice b2 (x.np s) q2) (.bool (x.eo s)) (.int .i64 (x.en s)) (.int .i64 (x.f s)) (.slice b3 (x.ng s) q3) 35 rfl
 revert H
 generalize World.alloc _ _ = W7
 intro H
 obtain ⟨ca0, ca1, ca2, ca3, ca4, ca5, ca6⟩ := H.cells7 (w4.heap.size)
 have la := zA0 ca0
 obtain ⟨cb0, cb1, cb2, cb3, cb4, cb5, cb6⟩ := H.cells7 (w5.heap.size)
 have lb := zA0 cb0
 go_wp2_with fail
 clear ca0 ca1 ca2 ca3 ca4 ca5 ca6 la cb0 cb1 cb2 cb3 cb4 cb5 cb6 lb
 (with_reducible refine (zLq a0 a1 a2 a3 b0 b1 b2 b3 (x.n s) (x.np s) (x.ng s) p0 p1 p2 p3 q0 q1 q2 q3 (x.eo s) (x.en s) (x.f s) (s.dd x.X x.q) x.V x.GV x.P x.Q (s.dd x.X x.q) x.V x.GV x.P x.Q _ n1 n2 n3 (H.days (ao := a0) (X := (s.dd x.X x.q)) (n := (x.n s)) (cap := p0)) (H.days (ao := a1) (X := x.V) (n := (x.n s)) (cap := p1)) (H.rat (ao := a2) (P := x.P) (Q := x.Q) (n := (x.np s)) (cap := p2)) (H.days (ao := a3) (X := x.GV) (n := (x.ng s)) (cap := p3)) (H.days (ao := b0) (X := (s.dd x.X x.q)) (n := (x.n s)) (cap := q0)) (H.days (ao := b1) (X := x.V) (n := (x.n s)) (cap := q1)) (H.rat (ao := b2) (P := x.P) (Q := x.Q) (n := (x.np s)) (cap := q2)) (H.days (ao := b3) (X := x.GV) (n := (x.ng s)) (cap := q3)) (fun _ _ => rfl) (fun _ _ => rfl) (fun _ _ => ⟨rfl, rfl⟩) (fun _ _ => rfl)).mono ?_)
 rintro e w6 ⟨rfl, hb⟩
 replace H := H.below hb
 clear hb
 rcases HZ.out with hz | ⟨hz, h6⟩
 ·obtain rfl : y5 = 0 := HY.out.symm.trans hz
  clear hz
  obtain ⟨ca0, ca1, ca2, ca3, ca4, ca5, ca6⟩ := H.cells7 (w4.heap.size)
  have la := zA0 ca0
  go_wp2_with fail
  clear ca0 ca1 ca2 ca3 ca4 ca5 ca6 la
  (with_reducible refine (zCe a0 (x.n s) p0 (s.dd x.X x.q) a1 p1 x.V _ n1 (H.days (ao := a0) (X := (s.dd x.X x.q)) (n := (x.n s)) (cap := p0)) (H.days (ao := a1) (X := x.V) (n := (x.n s)) (cap := p1)) RD.out).mono ?_)
  rintro e w7 ⟨rfl, hb⟩
  replace H := H.below hb
  clear hb
  go_wp2
  go_ret
  exact ⟨rfl, H.old⟩
 ·obtain rfl : y5 = 5 := HY.out.symm.trans hz
  have e6 : (t.co == 6) = true := by simp [h6]
  clear hz h6
  have kc := H.cell (w.heap.size) 3 (.int .i64 t.co)
  have lc := zA0 kc
  go_wp2
  go_ret
  exact ⟨rfl, H.old⟩
theorem zKc (t : Tm) (c : Ca) (aR : Option Addr) (cR : Nat) (aD : Option Addr) (cD : Nat) (z : Int) (w : World) (hL : FactsS w) (hC : CalAt w c aR cR aD cD) (bz : 0 ≤ z ∧ z < 256) : Calls Tryz.prog 7 #[.agg #[.int .i64 t.mo, .int .i64 t.ra, .int .i64 t.ki, .int .i64 t.co, .int .i64 t.st, .int .i64 t.en, .int .i64 t.ms, .bool t.bk, .bool t.lg, .bool t.eo, .int .i64 t.ro], .agg #[.bool (c.o 0), .bool (c.o 1), .bool (c.o 2), .bool (c.o 3), .bool (c.o 4), .bool (c.o 5), .bool (c.o 6), .slice aR c.nr cR, .slice aD c.nd cD], .int .u8 z] w fun e w' => e = .returned (.bool true) ∧ Below w.heap.size w w' := by
 by_cases hc : t.code = 0
 ·by_cases h : c.Few ∧ c.May ∧ t.en - t.st ≤ 31 * 60
  ·exact zKb t c aR cR aD cD z (z % 5) w hL hC hc h.1 h.2.1 (by have := h.2.2; omega) rfl ⟨by omega, by omega⟩ bz
  ·exact zN6 t c aR cR aD cD z w hL hC hc ⟨fun g => (by cases g), fun g => absurd g h⟩
 ·exact zQv t c aR cR aD cD z _ w hL hC rfl hc
end Go.Proofs.YtpfgdfpaoldhcaaGreatDoor
