/- DatesRise: days strictly rise, from the first one to the last one; each one between is so many periods from the anchor; there is one stub at most. -/
import Derived.Test.YtjijgcgbnmobfaaGreatDoorDaDays
namespace Go.Proofs.YtjijgcgbnmobfaaGreatDoor
open Go.RowKit
set_option linter.unusedVariables false
set_option linter.unusedSimpArgs false

theorem drise_no (mo ra ki co st en ms : Int) (bk lg eo : Bool) (ro : Int) (z : Int) (w : World) (hL : FactsT w) (hc : (Tm.mk mo ra ki co st en ms bk lg eo ro).code = z) (h0 : z ≠ 0) : Calls Tryz.prog 4 #[.agg #[.int .i64 mo, .int .i64 ra, .int .i64 ki, .int .i64 co, .int .i64 st, .int .i64 en, .int .i64 ms, .bool bk, .bool lg, .bool eo, .int .i64 ro]] w fun e w' => e = .returned (.bool true) ∧ Below w.heap.size w w' := by
  have H := (Held.start w).add (f := factsTF) hL
  have CK := Lib.hid (fun v => rcheck15 mo ra ki co st en ms bk lg eo ro z v hc)
  have CN : Hid ((z != 0) = true) := Lib.hid (by simpa using h0)
  have CE : Hid ((z == 0) = false) := Lib.hid (by simpa using h0)
  clear hc
  clear hL
  go_enter Tryz.func4, Tryz.ntmps4
  go_wp2_with fail
  replace H := H.box_11 (w.heap.size) (.int .i64 mo) (.int .i64 ra) (.int .i64 ki) (.int .i64 co) (.int .i64 st) (.int .i64 en) (.int .i64 ms) (.bool bk) (.bool lg) (.bool eo) (.int .i64 ro) 23 rfl
  (with_reducible refine (dshown_any _ (H.factsT (by repeat (first | with_reducible exact List.mem_cons_self | with_reducible apply List.mem_cons_of_mem)))).mono ?_)
  rintro e w1 ⟨rfl, hb⟩
  replace H := H.below hb
  clear hb
  have ct0 := H.cell (w.heap.size) 0 (.int .i64 mo) (by repeat (first | with_reducible exact List.mem_cons_self | with_reducible apply List.mem_cons_of_mem))
  have ct1 := H.cell (w.heap.size) 1 (.int .i64 ra) (by repeat (first | with_reducible exact List.mem_cons_self | with_reducible apply List.mem_cons_of_mem))
  have ct2 := H.cell (w.heap.size) 2 (.int .i64 ki) (by repeat (first | with_reducible exact List.mem_cons_self | with_reducible apply List.mem_cons_of_mem))
  have ct3 := H.cell (w.heap.size) 3 (.int .i64 co) (by repeat (first | with_reducible exact List.mem_cons_self | with_reducible apply List.mem_cons_of_mem))
  have ct4 := H.cell (w.heap.size) 4 (.int .i64 st) (by repeat (first | with_reducible exact List.mem_cons_self | with_reducible apply List.mem_cons_of_mem))
  have ct5 := H.cell (w.heap.size) 5 (.int .i64 en) (by repeat (first | with_reducible exact List.mem_cons_self | with_reducible apply List.mem_cons_of_mem))
  have ct6 := H.cell (w.heap.size) 6 (.int .i64 ms) (by repeat (first | with_reducible exact List.mem_cons_self | with_reducible apply List.mem_cons_of_mem))
  have ct7 := H.cell (w.heap.size) 7 (.bool bk) (by repeat (first | with_reducible exact List.mem_cons_self | with_reducible apply List.mem_cons_of_mem))
  have ct8 := H.cell (w.heap.size) 8 (.bool lg) (by repeat (first | with_reducible exact List.mem_cons_self | with_reducible apply List.mem_cons_of_mem))
  have ct9 := H.cell (w.heap.size) 9 (.bool eo) (by repeat (first | with_reducible exact List.mem_cons_self | with_reducible apply List.mem_cons_of_mem))
  have ct10 := H.cell (w.heap.size) 10 (.int .i64 ro) (by repeat (first | with_reducible exact List.mem_cons_self | with_reducible apply List.mem_cons_of_mem))
  have lt := cell_lt ct0
  go_wp2_with fail
  clear ct0 ct1 ct2 ct3 ct4 ct5 ct6 ct7 ct8 ct9 ct10 lt
  (with_reducible refine (CK.out _).mono ?_)
  rintro e w2 ⟨rfl, hb⟩
  replace H := H.below hb
  clear hb
  have cn := CN.out
  have ce := CE.out
  go_wp2
  go_ret
  exact ⟨rfl, H.old⟩
theorem drise_far (mo ra ki co st en ms : Int) (bk lg eo : Bool) (ro : Int) (w : World) (hL : FactsT w) (hc : (Tm.mk mo ra ki co st en ms bk lg eo ro).code = 0) (hs : 6200 < en - st) : Calls Tryz.prog 4 #[.agg #[.int .i64 mo, .int .i64 ra, .int .i64 ki, .int .i64 co, .int .i64 st, .int .i64 en, .int .i64 ms, .bool bk, .bool lg, .bool eo, .int .i64 ro]] w fun e w' => e = .returned (.bool true) ∧ Below w.heap.size w w' := by
  have H := (Held.start w).add (f := factsTF) hL
  have CK := Lib.hid (fun v => rcheck15 mo ra ki co st en ms bk lg eo ro 0 v hc)
  obtain ⟨hf, hd, ho, -, -⟩ := Tm.of_zero hc
  have SHT := Lib.hid (fun v => short_any mo ra ki co st en ms bk lg eo ro 200 false v hd.1 hd.2 ho (by omega) (decide_eq_false (by omega)))
  clear hc hf hd ho hs
  clear hL
  go_enter Tryz.func4, Tryz.ntmps4
  go_wp2_with fail
  replace H := H.box_11 (w.heap.size) (.int .i64 mo) (.int .i64 ra) (.int .i64 ki) (.int .i64 co) (.int .i64 st) (.int .i64 en) (.int .i64 ms) (.bool bk) (.bool lg) (.bool eo) (.int .i64 ro) 23 rfl
  (with_reducible refine (dshown_any _ (H.factsT (by repeat (first | with_reducible exact List.mem_cons_self | with_reducible apply List.mem_cons_of_mem)))).mono ?_)
  rintro e w1 ⟨rfl, hb⟩
  replace H := H.below hb
  clear hb
  have ct0 := H.cell (w.heap.size) 0 (.int .i64 mo) (by repeat (first | with_reducible exact List.mem_cons_self | with_reducible apply List.mem_cons_of_mem))
  have ct1 := H.cell (w.heap.size) 1 (.int .i64 ra) (by repeat (first | with_reducible exact List.mem_cons_self | with_reducible apply List.mem_cons_of_mem))
  have ct2 := H.cell (w.heap.size) 2 (.int .i64 ki) (by repeat (first | with_reducible exact List.mem_cons_self | with_reducible apply List.mem_cons_of_mem))
  have ct3 := H.cell (w.heap.size) 3 (.int .i64 co) (by repeat (first | with_reducible exact List.mem_cons_self | with_reducible apply List.mem_cons_of_mem))
  have ct4 := H.cell (w.heap.size) 4 (.int .i64 st) (by repeat (first | with_reducible exact List.mem_cons_self | with_reducible apply List.mem_cons_of_mem))
  have ct5 := H.cell (w.heap.size) 5 (.int .i64 en) (by repeat (first | with_reducible exact List.mem_cons_self | with_reducible apply List.mem_cons_of_mem))
  have ct6 := H.cell (w.heap.size) 6 (.int .i64 ms) (by repeat (first | with_reducible exact List.mem_cons_self | with_reducible apply List.mem_cons_of_mem))
  have ct7 := H.cell (w.heap.size) 7 (.bool bk) (by repeat (first | with_reducible exact List.mem_cons_self | with_reducible apply List.mem_cons_of_mem))
  have ct8 := H.cell (w.heap.size) 8 (.bool lg) (by repeat (first | with_reducible exact List.mem_cons_self | with_reducible apply List.mem_cons_of_mem))
  have ct9 := H.cell (w.heap.size) 9 (.bool eo) (by repeat (first | with_reducible exact List.mem_cons_self | with_reducible apply List.mem_cons_of_mem))
  have ct10 := H.cell (w.heap.size) 10 (.int .i64 ro) (by repeat (first | with_reducible exact List.mem_cons_self | with_reducible apply List.mem_cons_of_mem))
  have lt := cell_lt ct0
  go_wp2_with fail
  clear ct0 ct1 ct2 ct3 ct4 ct5 ct6 ct7 ct8 ct9 ct10 lt
  (with_reducible refine (CK.out _).mono ?_)
  rintro e w2 ⟨rfl, hb⟩
  replace H := H.below hb
  clear hb
  have ct0 := H.cell (w.heap.size) 0 (.int .i64 mo) (by repeat (first | with_reducible exact List.mem_cons_self | with_reducible apply List.mem_cons_of_mem))
  have ct1 := H.cell (w.heap.size) 1 (.int .i64 ra) (by repeat (first | with_reducible exact List.mem_cons_self | with_reducible apply List.mem_cons_of_mem))
  have ct2 := H.cell (w.heap.size) 2 (.int .i64 ki) (by repeat (first | with_reducible exact List.mem_cons_self | with_reducible apply List.mem_cons_of_mem))
  have ct3 := H.cell (w.heap.size) 3 (.int .i64 co) (by repeat (first | with_reducible exact List.mem_cons_self | with_reducible apply List.mem_cons_of_mem))
  have ct4 := H.cell (w.heap.size) 4 (.int .i64 st) (by repeat (first | with_reducible exact List.mem_cons_self | with_reducible apply List.mem_cons_of_mem))
  have ct5 := H.cell (w.heap.size) 5 (.int .i64 en) (by repeat (first | with_reducible exact List.mem_cons_self | with_reducible apply List.mem_cons_of_mem))
  have ct6 := H.cell (w.heap.size) 6 (.int .i64 ms) (by repeat (first | with_reducible exact List.mem_cons_self | with_reducible apply List.mem_cons_of_mem))
  have ct7 := H.cell (w.heap.size) 7 (.bool bk) (by repeat (first | with_reducible exact List.mem_cons_self | with_reducible apply List.mem_cons_of_mem))
  have ct8 := H.cell (w.heap.size) 8 (.bool lg) (by repeat (first | with_reducible exact List.mem_cons_self | with_reducible apply List.mem_cons_of_mem))
  have ct9 := H.cell (w.heap.size) 9 (.bool eo) (by repeat (first | with_reducible exact List.mem_cons_self | with_reducible apply List.mem_cons_of_mem))
  have ct10 := H.cell (w.heap.size) 10 (.int .i64 ro) (by repeat (first | with_reducible exact List.mem_cons_self | with_reducible apply List.mem_cons_of_mem))
  have lt := cell_lt ct0
  go_wp2_with fail
  clear ct0 ct1 ct2 ct3 ct4 ct5 ct6 ct7 ct8 ct9 ct10 lt
  (with_reducible refine (SHT.out _).mono ?_)
  rintro e w3 ⟨rfl, hb⟩
  replace H := H.below hb
  clear hb
  go_wp2
  go_ret
  exact ⟨rfl, H.old⟩
set_option maxHeartbeats 8000000 in
set_option maxRecDepth 100000 in
theorem drise_false (mo ra ki co st en ms : Int) (lg eo : Bool) (ro : Int) (w : World) (hL : FactsT w) (hc : (Tm.mk mo ra ki co st en ms false lg eo ro).code = 0) (hs : en - st ≤ 6200) : Calls Tryz.prog 4 #[.agg #[.int .i64 mo, .int .i64 ra, .int .i64 ki, .int .i64 co, .int .i64 st, .int .i64 en, .int .i64 ms, .bool false, .bool lg, .bool eo, .int .i64 ro]] w fun e w' => e = .returned (.bool true) ∧ Below w.heap.size w w' := by
  have H := (Held.start w).add (f := factsTF) hL
  have CK := Lib.hid (fun v => rcheck15 mo ra ki co st en ms false lg eo ro 0 v hc)
  obtain ⟨hf, hd, ho, -, -⟩ := Tm.of_zero hc
  have mb : 1 ≤ ms ∧ ms ≤ 12 := mo_bd hf.2.2.2
  have SHT := Lib.hid (fun v => short_any mo ra ki co st en ms false lg eo ro 200 true v hd.1 hd.2 ho (by omega) (decide_eq_true (by omega)))
  obtain ⟨X, E, m, hWk⟩ := Tm.walk (Tm.mk mo ra ki co st en ms false lg eo ro) hc (by show en - st ≤ 30000; omega)
  obtain ⟨q, hq⟩ : ∃ q, (Tm.mk mo ra ki co st en ms false lg eo ro).q X E m = q := ⟨_, rfl⟩
  have qb : q ≤ m - 1 := by rw [← hq]; exact Tm.q_bd _ _ _ _
  have top := hWk.top
  have one := hWk.one
  have OT := Lib.hid (fun v h => of_dd mo ra ki co st en ms false lg eo ro X E m q v h hc ho (by omega) hWk hq)
  obtain ⟨Y, hY⟩ : ∃ Y, (Tm.mk mo ra ki co st en ms false lg eo ro).dd X q = Y := ⟨_, rfl⟩
  have Y0 : Hid (Y 0 = st) := Lib.hid (by rw [← hY]; exact Tm.dd_zero _ _ _ hWk.x0)
  have YN : Hid (Y (q + 1) = en) := Lib.hid (by rw [← hY]; exact Tm.dd_end _ _ _ hWk.x0)
  have YR : Hid (∀ i, i + 1 < q + 2 → Y i < Y (i + 1)) := Lib.hid (by rw [← hY]; exact hWk.dd_rise ho qb)
  have YS : Hid (∀ i, i ≤ q + 1 → i ≠ q + 1 → Y i = X (i) ∧ E (i) = 0) := Lib.hid (fun i hi hn => by
    rw [← hY, hWk.dd_step hi (fun g => by cases g.1) (fun g => hn g.2)]
    refine ⟨rfl, ?_⟩
    rcases Nat.eq_zero_or_pos (i) with z | z
    · rw [z]; exact hWk.e0
    · exact (hWk.mid _ z (by omega)).1)
  have MV := Lib.hid (fun (j : Nat) (p : Int) (v : World) (hp : (j : Int) * ms = p) => rmove_any st p (X j) (E j) eo v (by
    have := hWk.mv j
    rw [show (j : Int) * (Tm.mk mo ra ki co st en ms false lg eo ro).ap = p by rw [← hp]; rfl] at this
    exact this))
  have EC := Lib.hid hWk.code
  rw [hY] at OT
  clear hc hf hd ho hs hWk hq hY
  clear hL
  go_enter Tryz.func4, Tryz.ntmps4
  go_wp2_with fail
  replace H := H.box_11 (w.heap.size) (.int .i64 mo) (.int .i64 ra) (.int .i64 ki) (.int .i64 co) (.int .i64 st) (.int .i64 en) (.int .i64 ms) (.bool false) (.bool lg) (.bool eo) (.int .i64 ro) 23 rfl
  (with_reducible refine (dshown_any _ (H.factsT (by repeat (first | with_reducible exact List.mem_cons_self | with_reducible apply List.mem_cons_of_mem)))).mono ?_)
  rintro e w1 ⟨rfl, hb⟩
  replace H := H.below hb
  clear hb
  have ct0 := H.cell (w.heap.size) 0 (.int .i64 mo) (by repeat (first | with_reducible exact List.mem_cons_self | with_reducible apply List.mem_cons_of_mem))
  have ct1 := H.cell (w.heap.size) 1 (.int .i64 ra) (by repeat (first | with_reducible exact List.mem_cons_self | with_reducible apply List.mem_cons_of_mem))
  have ct2 := H.cell (w.heap.size) 2 (.int .i64 ki) (by repeat (first | with_reducible exact List.mem_cons_self | with_reducible apply List.mem_cons_of_mem))
  have ct3 := H.cell (w.heap.size) 3 (.int .i64 co) (by repeat (first | with_reducible exact List.mem_cons_self | with_reducible apply List.mem_cons_of_mem))
  have ct4 := H.cell (w.heap.size) 4 (.int .i64 st) (by repeat (first | with_reducible exact List.mem_cons_self | with_reducible apply List.mem_cons_of_mem))
  have ct5 := H.cell (w.heap.size) 5 (.int .i64 en) (by repeat (first | with_reducible exact List.mem_cons_self | with_reducible apply List.mem_cons_of_mem))
  have ct6 := H.cell (w.heap.size) 6 (.int .i64 ms) (by repeat (first | with_reducible exact List.mem_cons_self | with_reducible apply List.mem_cons_of_mem))
  have ct7 := H.cell (w.heap.size) 7 (.bool false) (by repeat (first | with_reducible exact List.mem_cons_self | with_reducible apply List.mem_cons_of_mem))
  have ct8 := H.cell (w.heap.size) 8 (.bool lg) (by repeat (first | with_reducible exact List.mem_cons_self | with_reducible apply List.mem_cons_of_mem))
  have ct9 := H.cell (w.heap.size) 9 (.bool eo) (by repeat (first | with_reducible exact List.mem_cons_self | with_reducible apply List.mem_cons_of_mem))
  have ct10 := H.cell (w.heap.size) 10 (.int .i64 ro) (by repeat (first | with_reducible exact List.mem_cons_self | with_reducible apply List.mem_cons_of_mem))
  have lt := cell_lt ct0
  go_wp2_with fail
  clear ct0 ct1 ct2 ct3 ct4 ct5 ct6 ct7 ct8 ct9 ct10 lt
  (with_reducible refine (CK.out _).mono ?_)
  rintro e w2 ⟨rfl, hb⟩
  replace H := H.below hb
  clear hb
  have ct0 := H.cell (w.heap.size) 0 (.int .i64 mo) (by repeat (first | with_reducible exact List.mem_cons_self | with_reducible apply List.mem_cons_of_mem))
  have ct1 := H.cell (w.heap.size) 1 (.int .i64 ra) (by repeat (first | with_reducible exact List.mem_cons_self | with_reducible apply List.mem_cons_of_mem))
  have ct2 := H.cell (w.heap.size) 2 (.int .i64 ki) (by repeat (first | with_reducible exact List.mem_cons_self | with_reducible apply List.mem_cons_of_mem))
  have ct3 := H.cell (w.heap.size) 3 (.int .i64 co) (by repeat (first | with_reducible exact List.mem_cons_self | with_reducible apply List.mem_cons_of_mem))
  have ct4 := H.cell (w.heap.size) 4 (.int .i64 st) (by repeat (first | with_reducible exact List.mem_cons_self | with_reducible apply List.mem_cons_of_mem))
  have ct5 := H.cell (w.heap.size) 5 (.int .i64 en) (by repeat (first | with_reducible exact List.mem_cons_self | with_reducible apply List.mem_cons_of_mem))
  have ct6 := H.cell (w.heap.size) 6 (.int .i64 ms) (by repeat (first | with_reducible exact List.mem_cons_self | with_reducible apply List.mem_cons_of_mem))
  have ct7 := H.cell (w.heap.size) 7 (.bool false) (by repeat (first | with_reducible exact List.mem_cons_self | with_reducible apply List.mem_cons_of_mem))
  have ct8 := H.cell (w.heap.size) 8 (.bool lg) (by repeat (first | with_reducible exact List.mem_cons_self | with_reducible apply List.mem_cons_of_mem))
  have ct9 := H.cell (w.heap.size) 9 (.bool eo) (by repeat (first | with_reducible exact List.mem_cons_self | with_reducible apply List.mem_cons_of_mem))
  have ct10 := H.cell (w.heap.size) 10 (.int .i64 ro) (by repeat (first | with_reducible exact List.mem_cons_self | with_reducible apply List.mem_cons_of_mem))
  have lt := cell_lt ct0
  go_wp2_with fail
  clear ct0 ct1 ct2 ct3 ct4 ct5 ct6 ct7 ct8 ct9 ct10 lt
  (with_reducible refine (SHT.out _).mono ?_)
  rintro e w3 ⟨rfl, hb⟩
  replace H := H.below hb
  clear hb
  have ct0 := H.cell (w.heap.size) 0 (.int .i64 mo) (by repeat (first | with_reducible exact List.mem_cons_self | with_reducible apply List.mem_cons_of_mem))
  have ct1 := H.cell (w.heap.size) 1 (.int .i64 ra) (by repeat (first | with_reducible exact List.mem_cons_self | with_reducible apply List.mem_cons_of_mem))
  have ct2 := H.cell (w.heap.size) 2 (.int .i64 ki) (by repeat (first | with_reducible exact List.mem_cons_self | with_reducible apply List.mem_cons_of_mem))
  have ct3 := H.cell (w.heap.size) 3 (.int .i64 co) (by repeat (first | with_reducible exact List.mem_cons_self | with_reducible apply List.mem_cons_of_mem))
  have ct4 := H.cell (w.heap.size) 4 (.int .i64 st) (by repeat (first | with_reducible exact List.mem_cons_self | with_reducible apply List.mem_cons_of_mem))
  have ct5 := H.cell (w.heap.size) 5 (.int .i64 en) (by repeat (first | with_reducible exact List.mem_cons_self | with_reducible apply List.mem_cons_of_mem))
  have ct6 := H.cell (w.heap.size) 6 (.int .i64 ms) (by repeat (first | with_reducible exact List.mem_cons_self | with_reducible apply List.mem_cons_of_mem))
  have ct7 := H.cell (w.heap.size) 7 (.bool false) (by repeat (first | with_reducible exact List.mem_cons_self | with_reducible apply List.mem_cons_of_mem))
  have ct8 := H.cell (w.heap.size) 8 (.bool lg) (by repeat (first | with_reducible exact List.mem_cons_self | with_reducible apply List.mem_cons_of_mem))
  have ct9 := H.cell (w.heap.size) 9 (.bool eo) (by repeat (first | with_reducible exact List.mem_cons_self | with_reducible apply List.mem_cons_of_mem))
  have ct10 := H.cell (w.heap.size) 10 (.int .i64 ro) (by repeat (first | with_reducible exact List.mem_cons_self | with_reducible apply List.mem_cons_of_mem))
  have lt := cell_lt ct0
  go_wp2_with fail
  clear ct0 ct1 ct2 ct3 ct4 ct5 ct6 ct7 ct8 ct9 ct10 lt
  (with_reducible refine (OT.out _ (H.factsT (by repeat (first | with_reducible exact List.mem_cons_self | with_reducible apply List.mem_cons_of_mem)))).mono ?_)
  rintro e w4 ⟨ao, cap, rfl, hdays, hb⟩
  obtain ⟨b, off, rfl, hcl⟩ := hdays.2 (by omega)
  have hcap := hdays.1
  replace H := (H.below hb).add (f := daysF (some ⟨b, off, none⟩) Y (q + 1 + 1) cap) hdays
  clear hb OT
  have k0 := hcl 0 (by omega)
  have kn := hcl (q + 1) (by omega)
  rw [Nat.add_zero, Y0.out] at k0
  rw [YN.out] at kn
  have t1 : decide (((q : Int) + 1 + 1) < 2) = false := decide_eq_false (by omega)
  clear hcl hdays
  have ct0 := H.cell (w.heap.size) 0 (.int .i64 mo) (by repeat (first | with_reducible exact List.mem_cons_self | with_reducible apply List.mem_cons_of_mem))
  have ct1 := H.cell (w.heap.size) 1 (.int .i64 ra) (by repeat (first | with_reducible exact List.mem_cons_self | with_reducible apply List.mem_cons_of_mem))
  have ct2 := H.cell (w.heap.size) 2 (.int .i64 ki) (by repeat (first | with_reducible exact List.mem_cons_self | with_reducible apply List.mem_cons_of_mem))
  have ct3 := H.cell (w.heap.size) 3 (.int .i64 co) (by repeat (first | with_reducible exact List.mem_cons_self | with_reducible apply List.mem_cons_of_mem))
  have ct4 := H.cell (w.heap.size) 4 (.int .i64 st) (by repeat (first | with_reducible exact List.mem_cons_self | with_reducible apply List.mem_cons_of_mem))
  have ct5 := H.cell (w.heap.size) 5 (.int .i64 en) (by repeat (first | with_reducible exact List.mem_cons_self | with_reducible apply List.mem_cons_of_mem))
  have ct6 := H.cell (w.heap.size) 6 (.int .i64 ms) (by repeat (first | with_reducible exact List.mem_cons_self | with_reducible apply List.mem_cons_of_mem))
  have ct7 := H.cell (w.heap.size) 7 (.bool false) (by repeat (first | with_reducible exact List.mem_cons_self | with_reducible apply List.mem_cons_of_mem))
  have ct8 := H.cell (w.heap.size) 8 (.bool lg) (by repeat (first | with_reducible exact List.mem_cons_self | with_reducible apply List.mem_cons_of_mem))
  have ct9 := H.cell (w.heap.size) 9 (.bool eo) (by repeat (first | with_reducible exact List.mem_cons_self | with_reducible apply List.mem_cons_of_mem))
  have ct10 := H.cell (w.heap.size) 10 (.int .i64 ro) (by repeat (first | with_reducible exact List.mem_cons_self | with_reducible apply List.mem_cons_of_mem))
  have lt := cell_lt ct0
  go_wp2_with fail
  go_quiet (fail)
  clear ct0 ct1 ct2 ct3 ct4 ct5 ct6 ct7 ct8 ct9 ct10 lt k0 kn t1
  replace H := H.drewN nq
  obtain ⟨W5, hW5⟩ : ∃ W5, World.drewN w4 nq = W5 := ⟨_, rfl⟩
  rw [hW5] at H ⊢
  clear hW5
  have hw5 := H.size
  have HH := Lib.hid H
  clear H
  go_wp2_with fail
  go_loopw [7, 8, 9, 10, 11, 12] (fun i s8 s9 s10 s11 s12 wr => ∃ k : Nat, k ≤ q + 2 ∧ i = .int .i64 (k : Int) ∧ Below W5.heap.size W5 wr) (fun i _ _ _ _ _ _ => q + 2 - (intOf i).toNat)
  case atStart => exact ⟨0, by omega, rfl, Below.refl _ _⟩
  case round =>
    obtain ⟨k, hk, rfl, hB⟩ := hrel
    have H := HH.out.below hB
    have hsz := hB.size
    have HB := Lib.hid hB
    clear hB
    obtain ⟨b1, o1, e1, hcl⟩ := (H.days (ao := some ⟨b, off, none⟩) (X := Y) (n := q + 1 + 1) (cap := cap) (by repeat (first | with_reducible exact List.mem_cons_self | with_reducible apply List.mem_cons_of_mem))).2 (by omega)
    injection e1 with e1
    injection e1 with e1 e2 _
    subst e1 e2
    have ct4 := H.cell (w.heap.size) 4 (.int .i64 st) (by repeat (first | with_reducible exact List.mem_cons_self | with_reducible apply List.mem_cons_of_mem))
    have ct5 := H.cell (w.heap.size) 5 (.int .i64 en) (by repeat (first | with_reducible exact List.mem_cons_self | with_reducible apply List.mem_cons_of_mem))
    have ct6 := H.cell (w.heap.size) 6 (.int .i64 ms) (by repeat (first | with_reducible exact List.mem_cons_self | with_reducible apply List.mem_cons_of_mem))
    have ct7 := H.cell (w.heap.size) 7 (.bool false) (by repeat (first | with_reducible exact List.mem_cons_self | with_reducible apply List.mem_cons_of_mem))
    have ct9 := H.cell (w.heap.size) 9 (.bool eo) (by repeat (first | with_reducible exact List.mem_cons_self | with_reducible apply List.mem_cons_of_mem))
    have lct := cell_lt ct4
    by_cases hlt : k < q + 2
    · have kk := hcl k (by omega)
      match k, hk, hlt, kk with
      | 0, hk, hlt, kk =>
        go_wp2_with fail
        go_quiet (fail)
        go_wp2_with fail
        replace H := H.drewN nq

        (with_reducible refine (MV.out 0 0 _ (by simp)).mono ?_)
        rintro e w7 ⟨rfl, hb⟩
        have HB2 := Lib.hid ((belowDrewN HB.out nq).trans (hb.mono hsz))
        replace H := H.below hb
        clear ct4 ct5 ct6 ct7 ct9 lct
        have ct4 := H.cell (w.heap.size) 4 (.int .i64 st) (by repeat (first | with_reducible exact List.mem_cons_self | with_reducible apply List.mem_cons_of_mem))
        have ct5 := H.cell (w.heap.size) 5 (.int .i64 en) (by repeat (first | with_reducible exact List.mem_cons_self | with_reducible apply List.mem_cons_of_mem))
        have ct6 := H.cell (w.heap.size) 6 (.int .i64 ms) (by repeat (first | with_reducible exact List.mem_cons_self | with_reducible apply List.mem_cons_of_mem))
        have ct7 := H.cell (w.heap.size) 7 (.bool false) (by repeat (first | with_reducible exact List.mem_cons_self | with_reducible apply List.mem_cons_of_mem))
        have ct9 := H.cell (w.heap.size) 9 (.bool eo) (by repeat (first | with_reducible exact List.mem_cons_self | with_reducible apply List.mem_cons_of_mem))
        have lct := cell_lt ct4
        replace kk := keep hb (cell_lt kk) kk
        rw [Nat.add_zero] at kk
        clear hb
        obtain ⟨ey, ee⟩ := YS.out 0 (by omega) (by omega)
        rw [show X 0 = X 0 from rfl] at ey

        obtain ⟨x, hx⟩ : ∃ x, X 0 = x := ⟨_, rfl⟩
        rw [ey, hx] at kk
        rw [ee, hx]
        clear ey ee hx
        have ts : ((0 : Int) == (q : Int) + 1) = false := by rw [beq_eq_false_iff_ne]; omega
        go_wp2
        go_roundw
        case rel => exact ⟨1, by omega, by go_num, HB2.out⟩
        case measure => simp [intOf] <;> omega
      | p + 1, hk, hlt, kk =>
        have kp := hcl p (by omega)
        have tr : decide (Y (p + 1) ≤ Y p) = false := decide_eq_false (by have := YR.out p (by omega); omega)
        clear hcl
        obtain ⟨z, hz⟩ : ∃ z, ((p : Int) + 1) * ms = z := ⟨_, rfl⟩
        have bz := mul_bd2 (k := (p : Int) + 1) (a := ms) (by omega) (by omega) mb.1 mb.2
        rw [hz] at bz
        have M1 := Lib.hid (fun v => MV.out (p + 1) z v (by rw [← hz]; rfl))
        go_wp2_with fail
        go_quiet (fail)
        go_wp2_with fail
        replace H := H.drewN nq
        clear hz bz
        (with_reducible refine (M1.out _).mono ?_)
        rintro e w7 ⟨rfl, hb⟩
        have HB2 := Lib.hid ((belowDrewN HB.out nq).trans (hb.mono hsz))
        by_cases hst : p = q
        · subst hst
          replace H := H.below hb
          clear ct4 ct5 ct6 ct7 ct9 lct
          have ct4 := H.cell (w.heap.size) 4 (.int .i64 st) (by repeat (first | with_reducible exact List.mem_cons_self | with_reducible apply List.mem_cons_of_mem))
          have ct5 := H.cell (w.heap.size) 5 (.int .i64 en) (by repeat (first | with_reducible exact List.mem_cons_self | with_reducible apply List.mem_cons_of_mem))
          have ct6 := H.cell (w.heap.size) 6 (.int .i64 ms) (by repeat (first | with_reducible exact List.mem_cons_self | with_reducible apply List.mem_cons_of_mem))
          have ct7 := H.cell (w.heap.size) 7 (.bool false) (by repeat (first | with_reducible exact List.mem_cons_self | with_reducible apply List.mem_cons_of_mem))
          have ct9 := H.cell (w.heap.size) 9 (.bool eo) (by repeat (first | with_reducible exact List.mem_cons_self | with_reducible apply List.mem_cons_of_mem))
          have lct := cell_lt ct4
          replace kk := keep hb (cell_lt kk) kk
          clear hb
          go_wp2
          go_roundw
          case rel => exact ⟨p + 1 + 1, by omega, by go_num, HB2.out⟩
          case measure => simp [intOf] <;> omega
        · have hst2 : p + 1 ≠ q + 1 := by omega
          replace H := H.below hb
          clear ct4 ct5 ct6 ct7 ct9 lct
          have ct4 := H.cell (w.heap.size) 4 (.int .i64 st) (by repeat (first | with_reducible exact List.mem_cons_self | with_reducible apply List.mem_cons_of_mem))
          have ct5 := H.cell (w.heap.size) 5 (.int .i64 en) (by repeat (first | with_reducible exact List.mem_cons_self | with_reducible apply List.mem_cons_of_mem))
          have ct6 := H.cell (w.heap.size) 6 (.int .i64 ms) (by repeat (first | with_reducible exact List.mem_cons_self | with_reducible apply List.mem_cons_of_mem))
          have ct7 := H.cell (w.heap.size) 7 (.bool false) (by repeat (first | with_reducible exact List.mem_cons_self | with_reducible apply List.mem_cons_of_mem))
          have ct9 := H.cell (w.heap.size) 9 (.bool eo) (by repeat (first | with_reducible exact List.mem_cons_self | with_reducible apply List.mem_cons_of_mem))
          have lct := cell_lt ct4
          replace kk := keep hb (cell_lt kk) kk
          clear hb
          obtain ⟨ey, ee⟩ := YS.out (p + 1) (by omega) (by omega)
          rw [show X (p + 1) = X (p + 1) from rfl] at ey

          obtain ⟨x, hx⟩ : ∃ x, X (p + 1) = x := ⟨_, rfl⟩
          rw [ey, hx] at kk
          rw [ee, hx]
          clear ey ee hx
          have ts : ((p : Int) + 1 == (q : Int) + 1) = false := by rw [beq_eq_false_iff_ne]; omega
          go_wp2
          go_roundw
          case rel => exact ⟨p + 1 + 1, by omega, by go_num, HB2.out⟩
          case measure => simp [intOf] <;> omega
    · obtain rfl : k = q + 2 := by omega
      clear hcl
      go_wp2
      go_ret
      exact ⟨rfl, H.old⟩
set_option maxHeartbeats 8000000 in
set_option maxRecDepth 100000 in
theorem drise_true (mo ra ki co st en ms : Int) (lg eo : Bool) (ro : Int) (w : World) (hL : FactsT w) (hc : (Tm.mk mo ra ki co st en ms true lg eo ro).code = 0) (hs : en - st ≤ 6200) : Calls Tryz.prog 4 #[.agg #[.int .i64 mo, .int .i64 ra, .int .i64 ki, .int .i64 co, .int .i64 st, .int .i64 en, .int .i64 ms, .bool true, .bool lg, .bool eo, .int .i64 ro]] w fun e w' => e = .returned (.bool true) ∧ Below w.heap.size w w' := by
  have H := (Held.start w).add (f := factsTF) hL
  have CK := Lib.hid (fun v => rcheck15 mo ra ki co st en ms true lg eo ro 0 v hc)
  obtain ⟨hf, hd, ho, -, -⟩ := Tm.of_zero hc
  have mb : 1 ≤ ms ∧ ms ≤ 12 := mo_bd hf.2.2.2
  have SHT := Lib.hid (fun v => short_any mo ra ki co st en ms true lg eo ro 200 true v hd.1 hd.2 ho (by omega) (decide_eq_true (by omega)))
  obtain ⟨X, E, m, hWk⟩ := Tm.walk (Tm.mk mo ra ki co st en ms true lg eo ro) hc (by show en - st ≤ 30000; omega)
  obtain ⟨q, hq⟩ : ∃ q, (Tm.mk mo ra ki co st en ms true lg eo ro).q X E m = q := ⟨_, rfl⟩
  have qb : q ≤ m - 1 := by rw [← hq]; exact Tm.q_bd _ _ _ _
  have top := hWk.top
  have one := hWk.one
  have OT := Lib.hid (fun v h => of_dd mo ra ki co st en ms true lg eo ro X E m q v h hc ho (by omega) hWk hq)
  obtain ⟨Y, hY⟩ : ∃ Y, (Tm.mk mo ra ki co st en ms true lg eo ro).dd X q = Y := ⟨_, rfl⟩
  have Y0 : Hid (Y 0 = st) := Lib.hid (by rw [← hY]; exact Tm.dd_zero _ _ _ hWk.x0)
  have YN : Hid (Y (q + 1) = en) := Lib.hid (by rw [← hY]; exact Tm.dd_end _ _ _ hWk.x0)
  have YR : Hid (∀ i, i + 1 < q + 2 → Y i < Y (i + 1)) := Lib.hid (by rw [← hY]; exact hWk.dd_rise ho qb)
  have YS : Hid (∀ i, i ≤ q + 1 → i ≠ 0 → Y i = X (q + 1 - i) ∧ E (q + 1 - i) = 0) := Lib.hid (fun i hi hn => by
    rw [← hY, hWk.dd_step hi (fun g => hn g.2) (fun g => by cases g.1)]
    refine ⟨rfl, ?_⟩
    rcases Nat.eq_zero_or_pos (q + 1 - i) with z | z
    · rw [z]; exact hWk.e0
    · exact (hWk.mid _ z (by omega)).1)
  have MV := Lib.hid (fun (j : Nat) (p : Int) (v : World) (hp : -(j : Int) * ms = p) => rmove_any en p (X j) (E j) eo v (by
    have := hWk.mv j
    rw [show (j : Int) * (Tm.mk mo ra ki co st en ms true lg eo ro).ap = p by rw [← hp]; exact Int.mul_neg _ _ |>.trans (Int.neg_mul _ _).symm] at this
    exact this))
  have EC := Lib.hid hWk.code
  rw [hY] at OT
  clear hc hf hd ho hs hWk hq hY
  clear hL
  go_enter Tryz.func4, Tryz.ntmps4
  go_wp2_with fail
  replace H := H.box_11 (w.heap.size) (.int .i64 mo) (.int .i64 ra) (.int .i64 ki) (.int .i64 co) (.int .i64 st) (.int .i64 en) (.int .i64 ms) (.bool true) (.bool lg) (.bool eo) (.int .i64 ro) 23 rfl
  (with_reducible refine (dshown_any _ (H.factsT (by repeat (first | with_reducible exact List.mem_cons_self | with_reducible apply List.mem_cons_of_mem)))).mono ?_)
  rintro e w1 ⟨rfl, hb⟩
  replace H := H.below hb
  clear hb
  have ct0 := H.cell (w.heap.size) 0 (.int .i64 mo) (by repeat (first | with_reducible exact List.mem_cons_self | with_reducible apply List.mem_cons_of_mem))
  have ct1 := H.cell (w.heap.size) 1 (.int .i64 ra) (by repeat (first | with_reducible exact List.mem_cons_self | with_reducible apply List.mem_cons_of_mem))
  have ct2 := H.cell (w.heap.size) 2 (.int .i64 ki) (by repeat (first | with_reducible exact List.mem_cons_self | with_reducible apply List.mem_cons_of_mem))
  have ct3 := H.cell (w.heap.size) 3 (.int .i64 co) (by repeat (first | with_reducible exact List.mem_cons_self | with_reducible apply List.mem_cons_of_mem))
  have ct4 := H.cell (w.heap.size) 4 (.int .i64 st) (by repeat (first | with_reducible exact List.mem_cons_self | with_reducible apply List.mem_cons_of_mem))
  have ct5 := H.cell (w.heap.size) 5 (.int .i64 en) (by repeat (first | with_reducible exact List.mem_cons_self | with_reducible apply List.mem_cons_of_mem))
  have ct6 := H.cell (w.heap.size) 6 (.int .i64 ms) (by repeat (first | with_reducible exact List.mem_cons_self | with_reducible apply List.mem_cons_of_mem))
  have ct7 := H.cell (w.heap.size) 7 (.bool true) (by repeat (first | with_reducible exact List.mem_cons_self | with_reducible apply List.mem_cons_of_mem))
  have ct8 := H.cell (w.heap.size) 8 (.bool lg) (by repeat (first | with_reducible exact List.mem_cons_self | with_reducible apply List.mem_cons_of_mem))
  have ct9 := H.cell (w.heap.size) 9 (.bool eo) (by repeat (first | with_reducible exact List.mem_cons_self | with_reducible apply List.mem_cons_of_mem))
  have ct10 := H.cell (w.heap.size) 10 (.int .i64 ro) (by repeat (first | with_reducible exact List.mem_cons_self | with_reducible apply List.mem_cons_of_mem))
  have lt := cell_lt ct0
  go_wp2_with fail
  clear ct0 ct1 ct2 ct3 ct4 ct5 ct6 ct7 ct8 ct9 ct10 lt
  (with_reducible refine (CK.out _).mono ?_)
  rintro e w2 ⟨rfl, hb⟩
  replace H := H.below hb
  clear hb
  have ct0 := H.cell (w.heap.size) 0 (.int .i64 mo) (by repeat (first | with_reducible exact List.mem_cons_self | with_reducible apply List.mem_cons_of_mem))
  have ct1 := H.cell (w.heap.size) 1 (.int .i64 ra) (by repeat (first | with_reducible exact List.mem_cons_self | with_reducible apply List.mem_cons_of_mem))
  have ct2 := H.cell (w.heap.size) 2 (.int .i64 ki) (by repeat (first | with_reducible exact List.mem_cons_self | with_reducible apply List.mem_cons_of_mem))
  have ct3 := H.cell (w.heap.size) 3 (.int .i64 co) (by repeat (first | with_reducible exact List.mem_cons_self | with_reducible apply List.mem_cons_of_mem))
  have ct4 := H.cell (w.heap.size) 4 (.int .i64 st) (by repeat (first | with_reducible exact List.mem_cons_self | with_reducible apply List.mem_cons_of_mem))
  have ct5 := H.cell (w.heap.size) 5 (.int .i64 en) (by repeat (first | with_reducible exact List.mem_cons_self | with_reducible apply List.mem_cons_of_mem))
  have ct6 := H.cell (w.heap.size) 6 (.int .i64 ms) (by repeat (first | with_reducible exact List.mem_cons_self | with_reducible apply List.mem_cons_of_mem))
  have ct7 := H.cell (w.heap.size) 7 (.bool true) (by repeat (first | with_reducible exact List.mem_cons_self | with_reducible apply List.mem_cons_of_mem))
  have ct8 := H.cell (w.heap.size) 8 (.bool lg) (by repeat (first | with_reducible exact List.mem_cons_self | with_reducible apply List.mem_cons_of_mem))
  have ct9 := H.cell (w.heap.size) 9 (.bool eo) (by repeat (first | with_reducible exact List.mem_cons_self | with_reducible apply List.mem_cons_of_mem))
  have ct10 := H.cell (w.heap.size) 10 (.int .i64 ro) (by repeat (first | with_reducible exact List.mem_cons_self | with_reducible apply List.mem_cons_of_mem))
  have lt := cell_lt ct0
  go_wp2_with fail
  clear ct0 ct1 ct2 ct3 ct4 ct5 ct6 ct7 ct8 ct9 ct10 lt
  (with_reducible refine (SHT.out _).mono ?_)
  rintro e w3 ⟨rfl, hb⟩
  replace H := H.below hb
  clear hb
  have ct0 := H.cell (w.heap.size) 0 (.int .i64 mo) (by repeat (first | with_reducible exact List.mem_cons_self | with_reducible apply List.mem_cons_of_mem))
  have ct1 := H.cell (w.heap.size) 1 (.int .i64 ra) (by repeat (first | with_reducible exact List.mem_cons_self | with_reducible apply List.mem_cons_of_mem))
  have ct2 := H.cell (w.heap.size) 2 (.int .i64 ki) (by repeat (first | with_reducible exact List.mem_cons_self | with_reducible apply List.mem_cons_of_mem))
  have ct3 := H.cell (w.heap.size) 3 (.int .i64 co) (by repeat (first | with_reducible exact List.mem_cons_self | with_reducible apply List.mem_cons_of_mem))
  have ct4 := H.cell (w.heap.size) 4 (.int .i64 st) (by repeat (first | with_reducible exact List.mem_cons_self | with_reducible apply List.mem_cons_of_mem))
  have ct5 := H.cell (w.heap.size) 5 (.int .i64 en) (by repeat (first | with_reducible exact List.mem_cons_self | with_reducible apply List.mem_cons_of_mem))
  have ct6 := H.cell (w.heap.size) 6 (.int .i64 ms) (by repeat (first | with_reducible exact List.mem_cons_self | with_reducible apply List.mem_cons_of_mem))
  have ct7 := H.cell (w.heap.size) 7 (.bool true) (by repeat (first | with_reducible exact List.mem_cons_self | with_reducible apply List.mem_cons_of_mem))
  have ct8 := H.cell (w.heap.size) 8 (.bool lg) (by repeat (first | with_reducible exact List.mem_cons_self | with_reducible apply List.mem_cons_of_mem))
  have ct9 := H.cell (w.heap.size) 9 (.bool eo) (by repeat (first | with_reducible exact List.mem_cons_self | with_reducible apply List.mem_cons_of_mem))
  have ct10 := H.cell (w.heap.size) 10 (.int .i64 ro) (by repeat (first | with_reducible exact List.mem_cons_self | with_reducible apply List.mem_cons_of_mem))
  have lt := cell_lt ct0
  go_wp2_with fail
  clear ct0 ct1 ct2 ct3 ct4 ct5 ct6 ct7 ct8 ct9 ct10 lt
  (with_reducible refine (OT.out _ (H.factsT (by repeat (first | with_reducible exact List.mem_cons_self | with_reducible apply List.mem_cons_of_mem)))).mono ?_)
  rintro e w4 ⟨ao, cap, rfl, hdays, hb⟩
  obtain ⟨b, off, rfl, hcl⟩ := hdays.2 (by omega)
  have hcap := hdays.1
  replace H := (H.below hb).add (f := daysF (some ⟨b, off, none⟩) Y (q + 1 + 1) cap) hdays
  clear hb OT
  have k0 := hcl 0 (by omega)
  have kn := hcl (q + 1) (by omega)
  rw [Nat.add_zero, Y0.out] at k0
  rw [YN.out] at kn
  have t1 : decide (((q : Int) + 1 + 1) < 2) = false := decide_eq_false (by omega)
  clear hcl hdays
  have ct0 := H.cell (w.heap.size) 0 (.int .i64 mo) (by repeat (first | with_reducible exact List.mem_cons_self | with_reducible apply List.mem_cons_of_mem))
  have ct1 := H.cell (w.heap.size) 1 (.int .i64 ra) (by repeat (first | with_reducible exact List.mem_cons_self | with_reducible apply List.mem_cons_of_mem))
  have ct2 := H.cell (w.heap.size) 2 (.int .i64 ki) (by repeat (first | with_reducible exact List.mem_cons_self | with_reducible apply List.mem_cons_of_mem))
  have ct3 := H.cell (w.heap.size) 3 (.int .i64 co) (by repeat (first | with_reducible exact List.mem_cons_self | with_reducible apply List.mem_cons_of_mem))
  have ct4 := H.cell (w.heap.size) 4 (.int .i64 st) (by repeat (first | with_reducible exact List.mem_cons_self | with_reducible apply List.mem_cons_of_mem))
  have ct5 := H.cell (w.heap.size) 5 (.int .i64 en) (by repeat (first | with_reducible exact List.mem_cons_self | with_reducible apply List.mem_cons_of_mem))
  have ct6 := H.cell (w.heap.size) 6 (.int .i64 ms) (by repeat (first | with_reducible exact List.mem_cons_self | with_reducible apply List.mem_cons_of_mem))
  have ct7 := H.cell (w.heap.size) 7 (.bool true) (by repeat (first | with_reducible exact List.mem_cons_self | with_reducible apply List.mem_cons_of_mem))
  have ct8 := H.cell (w.heap.size) 8 (.bool lg) (by repeat (first | with_reducible exact List.mem_cons_self | with_reducible apply List.mem_cons_of_mem))
  have ct9 := H.cell (w.heap.size) 9 (.bool eo) (by repeat (first | with_reducible exact List.mem_cons_self | with_reducible apply List.mem_cons_of_mem))
  have ct10 := H.cell (w.heap.size) 10 (.int .i64 ro) (by repeat (first | with_reducible exact List.mem_cons_self | with_reducible apply List.mem_cons_of_mem))
  have lt := cell_lt ct0
  go_wp2_with fail
  go_quiet (fail)
  clear ct0 ct1 ct2 ct3 ct4 ct5 ct6 ct7 ct8 ct9 ct10 lt k0 kn t1
  replace H := H.drewN nq
  obtain ⟨W5, hW5⟩ : ∃ W5, World.drewN w4 nq = W5 := ⟨_, rfl⟩
  rw [hW5] at H ⊢
  clear hW5
  have hw5 := H.size
  have HH := Lib.hid H
  clear H
  go_wp2_with fail
  go_loopw [7, 8, 9, 10, 11, 12] (fun i s8 s9 s10 s11 s12 wr => ∃ k : Nat, k ≤ q + 2 ∧ i = .int .i64 (k : Int) ∧ Below W5.heap.size W5 wr) (fun i _ _ _ _ _ _ => q + 2 - (intOf i).toNat)
  case atStart => exact ⟨0, by omega, rfl, Below.refl _ _⟩
  case round =>
    obtain ⟨k, hk, rfl, hB⟩ := hrel
    have H := HH.out.below hB
    have hsz := hB.size
    have HB := Lib.hid hB
    clear hB
    obtain ⟨b1, o1, e1, hcl⟩ := (H.days (ao := some ⟨b, off, none⟩) (X := Y) (n := q + 1 + 1) (cap := cap) (by repeat (first | with_reducible exact List.mem_cons_self | with_reducible apply List.mem_cons_of_mem))).2 (by omega)
    injection e1 with e1
    injection e1 with e1 e2 _
    subst e1 e2
    have ct4 := H.cell (w.heap.size) 4 (.int .i64 st) (by repeat (first | with_reducible exact List.mem_cons_self | with_reducible apply List.mem_cons_of_mem))
    have ct5 := H.cell (w.heap.size) 5 (.int .i64 en) (by repeat (first | with_reducible exact List.mem_cons_self | with_reducible apply List.mem_cons_of_mem))
    have ct6 := H.cell (w.heap.size) 6 (.int .i64 ms) (by repeat (first | with_reducible exact List.mem_cons_self | with_reducible apply List.mem_cons_of_mem))
    have ct7 := H.cell (w.heap.size) 7 (.bool true) (by repeat (first | with_reducible exact List.mem_cons_self | with_reducible apply List.mem_cons_of_mem))
    have ct9 := H.cell (w.heap.size) 9 (.bool eo) (by repeat (first | with_reducible exact List.mem_cons_self | with_reducible apply List.mem_cons_of_mem))
    have lct := cell_lt ct4
    by_cases hlt : k < q + 2
    · have kk := hcl k (by omega)
      match k, hk, hlt, kk with
      | 0, hk, hlt, kk =>
        obtain ⟨z, hz⟩ : ∃ z, -((q : Int) + 1) * ms = z := ⟨_, rfl⟩
        have bz := mul_bd2 (k := -((q : Int) + 1)) (a := ms) (by omega) (by omega) mb.1 mb.2
        rw [hz] at bz
        have M1 := Lib.hid (fun v => MV.out (q + 1) z v (by rw [← hz]; rfl))
        go_wp2_with fail
        go_quiet (fail)
        go_wp2_with fail
        replace H := H.drewN nq
        clear hz bz
        (with_reducible refine (M1.out _).mono ?_)
        rintro e w7 ⟨rfl, hb⟩
        have HB2 := Lib.hid ((belowDrewN HB.out nq).trans (hb.mono hsz))
        replace H := H.below hb
        clear ct4 ct5 ct6 ct7 ct9 lct
        have ct4 := H.cell (w.heap.size) 4 (.int .i64 st) (by repeat (first | with_reducible exact List.mem_cons_self | with_reducible apply List.mem_cons_of_mem))
        have ct5 := H.cell (w.heap.size) 5 (.int .i64 en) (by repeat (first | with_reducible exact List.mem_cons_self | with_reducible apply List.mem_cons_of_mem))
        have ct6 := H.cell (w.heap.size) 6 (.int .i64 ms) (by repeat (first | with_reducible exact List.mem_cons_self | with_reducible apply List.mem_cons_of_mem))
        have ct7 := H.cell (w.heap.size) 7 (.bool true) (by repeat (first | with_reducible exact List.mem_cons_self | with_reducible apply List.mem_cons_of_mem))
        have ct9 := H.cell (w.heap.size) 9 (.bool eo) (by repeat (first | with_reducible exact List.mem_cons_self | with_reducible apply List.mem_cons_of_mem))
        have lct := cell_lt ct4
        replace kk := keep hb (cell_lt kk) kk
        rw [Nat.add_zero] at kk
        clear hb
        go_wp2
        go_roundw
        case rel => exact ⟨1, by omega, by go_num, HB2.out⟩
        case measure => simp [intOf] <;> omega
      | p + 1, hk, hlt, kk =>
        have kp := hcl p (by omega)
        have tr : decide (Y (p + 1) ≤ Y p) = false := decide_eq_false (by have := YR.out p (by omega); omega)
        clear hcl
        obtain ⟨z1, hz1⟩ : ∃ z, ((p : Int) + 1) * ms = z := ⟨_, rfl⟩
        have bz1 := mul_bd2 (k := (p : Int) + 1) (a := ms) (by omega) (by omega) mb.1 mb.2
        rw [hz1] at bz1
        obtain ⟨z, hz⟩ : ∃ z, ((p : Int) + 1 - ((q : Int) + 1)) * ms = z := ⟨_, rfl⟩
        have bz := mul_bd2 (k := (p : Int) + 1 - ((q : Int) + 1)) (a := ms) (by omega) (by omega) mb.1 mb.2
        rw [hz] at bz
        have M1 := Lib.hid (fun v => MV.out (q - p) z v (by rw [← hz]; congr 1; omega))
        go_wp2_with fail
        go_quiet (fail)
        go_wp2_with fail
        replace H := H.drewN nq
        clear hz bz hz1 bz1
        (with_reducible refine (M1.out _).mono ?_)
        rintro e w7 ⟨rfl, hb⟩
        have HB2 := Lib.hid ((belowDrewN HB.out nq).trans (hb.mono hsz))
        replace H := H.below hb
        clear ct4 ct5 ct6 ct7 ct9 lct
        have ct4 := H.cell (w.heap.size) 4 (.int .i64 st) (by repeat (first | with_reducible exact List.mem_cons_self | with_reducible apply List.mem_cons_of_mem))
        have ct5 := H.cell (w.heap.size) 5 (.int .i64 en) (by repeat (first | with_reducible exact List.mem_cons_self | with_reducible apply List.mem_cons_of_mem))
        have ct6 := H.cell (w.heap.size) 6 (.int .i64 ms) (by repeat (first | with_reducible exact List.mem_cons_self | with_reducible apply List.mem_cons_of_mem))
        have ct7 := H.cell (w.heap.size) 7 (.bool true) (by repeat (first | with_reducible exact List.mem_cons_self | with_reducible apply List.mem_cons_of_mem))
        have ct9 := H.cell (w.heap.size) 9 (.bool eo) (by repeat (first | with_reducible exact List.mem_cons_self | with_reducible apply List.mem_cons_of_mem))
        have lct := cell_lt ct4
        replace kk := keep hb (cell_lt kk) kk
        clear hb
        obtain ⟨ey, ee⟩ := YS.out (p + 1) (by omega) (by omega)
        rw [show q + 1 - (p + 1) = q - p by omega] at ey
        rw [show q + 1 - (p + 1) = q - p by omega] at ee
        obtain ⟨x, hx⟩ : ∃ x, X (q - p) = x := ⟨_, rfl⟩
        rw [ey, hx] at kk
        rw [ee, hx]
        clear ey ee hx
        have ts : ((p : Int) + 1 == 0) = false := by rw [beq_eq_false_iff_ne]; omega
        go_wp2
        go_roundw
        case rel => exact ⟨p + 1 + 1, by omega, by go_num, HB2.out⟩
        case measure => simp [intOf] <;> omega
    · obtain rfl : k = q + 2 := by omega
      clear hcl
      go_wp2
      go_ret
      exact ⟨rfl, H.old⟩
theorem drise_walk (mo ra ki co st en ms : Int) (bk lg eo : Bool) (ro : Int) (w : World) (hL : FactsT w) : Calls Tryz.prog 4 #[.agg #[.int .i64 mo, .int .i64 ra, .int .i64 ki, .int .i64 co, .int .i64 st, .int .i64 en, .int .i64 ms, .bool bk, .bool lg, .bool eo, .int .i64 ro]] w fun e w' => e = .returned (.bool true) ∧ Below w.heap.size w w' := by
  by_cases hc : (Tm.mk mo ra ki co st en ms bk lg eo ro).code = 0
  · by_cases hs : en - st ≤ 6200
    · cases bk
      · exact drise_false mo ra ki co st en ms lg eo ro w hL hc hs
      · exact drise_true mo ra ki co st en ms lg eo ro w hL hc hs
    · exact drise_far mo ra ki co st en ms bk lg eo ro w hL hc (by omega)
  · exact drise_no mo ra ki co st en ms bk lg eo ro _ w hL rfl hc
end Go.Proofs.YtjijgcgbnmobfaaGreatDoor
