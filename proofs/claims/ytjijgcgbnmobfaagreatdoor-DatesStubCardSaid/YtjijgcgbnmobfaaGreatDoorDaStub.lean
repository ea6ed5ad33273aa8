/- DatesStub: a short stub is shorter than a period, a long one shorter than two. -/
import Derived.Test.YtjijgcgbnmobfaaGreatDoorDaDays
namespace Go.Proofs.YtjijgcgbnmobfaaGreatDoor
open Go.RowKit
set_option linter.unusedVariables false
set_option linter.unusedSimpArgs false

theorem dstub_no (mo ra ki co st en ms : Int) (bk lg eo : Bool) (ro : Int) (z : Int) (w : World) (hL : FactsT w) (hc : (Tm.mk mo ra ki co st en ms bk lg eo ro).code = z) (h0 : z ≠ 0) : Calls Tryz.prog 5 #[.agg #[.int .i64 mo, .int .i64 ra, .int .i64 ki, .int .i64 co, .int .i64 st, .int .i64 en, .int .i64 ms, .bool bk, .bool lg, .bool eo, .int .i64 ro]] w fun e w' => e = .returned (.bool true) ∧ Below w.heap.size w w' := by
  have H := (Held.start w).add (f := factsTF) hL
  have CK := Lib.hid (fun v => rcheck15 mo ra ki co st en ms bk lg eo ro z v hc)
  have CN : Hid ((z != 0) = true) := Lib.hid (by simpa using h0)
  have CE : Hid ((z == 0) = false) := Lib.hid (by simpa using h0)
  clear hc
  clear hL
  go_enter Tryz.func5, Tryz.ntmps5
  go_wp2_with fail
  replace H := H.box_11 (w.heap.size) (.int .i64 mo) (.int .i64 ra) (.int .i64 ki) (.int .i64 co) (.int .i64 st) (.int .i64 en) (.int .i64 ms) (.bool bk) (.bool lg) (.bool eo) (.int .i64 ro) 23 rfl
  (with_reducible refine (dshown_any _ (H.factsT (by repeat (first | with_reducible exact List.mem_cons_self | with_reducible apply List.mem_cons_of_mem)))).mono ?_)
  rintro e w1 ⟨rfl, hb⟩
  replace H := H.below hb
  clear hb
  have ct0 := H.cell (w.heap.size) 0 (.int .i64 mo) (by repeat (first | with_reducible exact List.mem_cons_self | with_reducible apply List.mem_cons_of_mem))
  have ct1 := H.cell (w.heap.size) 1 (.int .i64 ra) (by repeat (first | with_reducible exact List.mem_cons_self | with_reducible apply List.mem_cons_of_mem))
  have ct2 := H.cell (w.heap.size) 2 (.int .i64 ki) (by repeat (first | with_reducible exact List.mem_cons_self | with_reducible apply List.mem_cons_of_mem))
  have ct3 := H.cell (w.heap.size) 3 (.int .i64 co) (by repeat (first | with_reducible exact List.mem_cons_self | with_reducible apply List.mem_cons_of_mem))
  have ct4 := H.cell (w.heap.size) 4 (.int .i64 st) (by repeat (first | with_reducible exact List.mem_cons_self | with_reducible apply List.mem_cons_of_mem))
  have ct5 := H.cell (w.heap.size) 5 (.int .i64 en) (by repeat (first | with_reducible exact List.mem_cons_self | with_reducible apply List.mem_cons_of_mem))
  have ct6 := H.cell (w.heap.size) 6 (.int .i64 ms) (by repeat (first | with_reducible exact List.mem_cons_self | with_reducible apply List.mem_cons_of_mem))
  have ct7 := H.cell (w.heap.size) 7 (.bool bk) (by repeat (first | with_reducible exact List.mem_cons_self | with_reducible apply List.mem_cons_of_mem))
  have ct8 := H.cell (w.heap.size) 8 (.bool lg) (by repeat (first | with_reducible exact List.mem_cons_self | with_reducible apply List.mem_cons_of_mem))
  have ct9 := H.cell (w.heap.size) 9 (.bool eo) (by repeat (first | with_reducible exact List.mem_cons_self | with_reducible apply List.mem_cons_of_mem))
  have ct10 := H.cell (w.heap.size) 10 (.int .i64 ro) (by repeat (first | with_reducible exact List.mem_cons_self | with_reducible apply List.mem_cons_of_mem))
  have lt := cell_lt ct0
  go_wp2_with fail
  clear ct0 ct1 ct2 ct3 ct4 ct5 ct6 ct7 ct8 ct9 ct10 lt
  (with_reducible refine (CK.out _).mono ?_)
  rintro e w2 ⟨rfl, hb⟩
  replace H := H.below hb
  clear hb
  have cn := CN.out
  have ce := CE.out
  go_wp2
  go_ret
  exact ⟨rfl, H.old⟩
theorem dstub_far (mo ra ki co st en ms : Int) (bk lg eo : Bool) (ro : Int) (w : World) (hL : FactsT w) (hc : (Tm.mk mo ra ki co st en ms bk lg eo ro).code = 0) (hs : 6200 < en - st) : Calls Tryz.prog 5 #[.agg #[.int .i64 mo, .int .i64 ra, .int .i64 ki, .int .i64 co, .int .i64 st, .int .i64 en, .int .i64 ms, .bool bk, .bool lg, .bool eo, .int .i64 ro]] w fun e w' => e = .returned (.bool true) ∧ Below w.heap.size w w' := by
  have H := (Held.start w).add (f := factsTF) hL
  have CK := Lib.hid (fun v => rcheck15 mo ra ki co st en ms bk lg eo ro 0 v hc)
  obtain ⟨hf, hd, ho, -, -⟩ := Tm.of_zero hc
  have SHT := Lib.hid (fun v => short_any mo ra ki co st en ms bk lg eo ro 200 false v hd.1 hd.2 ho (by omega) (decide_eq_false (by omega)))
  clear hc hf hd ho hs
  clear hL
  go_enter Tryz.func5, Tryz.ntmps5
  go_wp2_with fail
  replace H := H.box_11 (w.heap.size) (.int .i64 mo) (.int .i64 ra) (.int .i64 ki) (.int .i64 co) (.int .i64 st) (.int .i64 en) (.int .i64 ms) (.bool bk) (.bool lg) (.bool eo) (.int .i64 ro) 23 rfl
  (with_reducible refine (dshown_any _ (H.factsT (by repeat (first | with_reducible exact List.mem_cons_self | with_reducible apply List.mem_cons_of_mem)))).mono ?_)
  rintro e w1 ⟨rfl, hb⟩
  replace H := H.below hb
  clear hb
  have ct0 := H.cell (w.heap.size) 0 (.int .i64 mo) (by repeat (first | with_reducible exact List.mem_cons_self | with_reducible apply List.mem_cons_of_mem))
  have ct1 := H.cell (w.heap.size) 1 (.int .i64 ra) (by repeat (first | with_reducible exact List.mem_cons_self | with_reducible apply List.mem_cons_of_mem))
  have ct2 := H.cell (w.heap.size) 2 (.int .i64 ki) (by repeat (first | with_reducible exact List.mem_cons_self | with_reducible apply List.mem_cons_of_mem))
  have ct3 := H.cell (w.heap.size) 3 (.int .i64 co) (by repeat (first | with_reducible exact List.mem_cons_self | with_reducible apply List.mem_cons_of_mem))
  have ct4 := H.cell (w.heap.size) 4 (.int .i64 st) (by repeat (first | with_reducible exact List.mem_cons_self | with_reducible apply List.mem_cons_of_mem))
  have ct5 := H.cell (w.heap.size) 5 (.int .i64 en) (by repeat (first | with_reducible exact List.mem_cons_self | with_reducible apply List.mem_cons_of_mem))
  have ct6 := H.cell (w.heap.size) 6 (.int .i64 ms) (by repeat (first | with_reducible exact List.mem_cons_self | with_reducible apply List.mem_cons_of_mem))
  have ct7 := H.cell (w.heap.size) 7 (.bool bk) (by repeat (first | with_reducible exact List.mem_cons_self | with_reducible apply List.mem_cons_of_mem))
  have ct8 := H.cell (w.heap.size) 8 (.bool lg) (by repeat (first | with_reducible exact List.mem_cons_self | with_reducible apply List.mem_cons_of_mem))
  have ct9 := H.cell (w.heap.size) 9 (.bool eo) (by repeat (first | with_reducible exact List.mem_cons_self | with_reducible apply List.mem_cons_of_mem))
  have ct10 := H.cell (w.heap.size) 10 (.int .i64 ro) (by repeat (first | with_reducible exact List.mem_cons_self | with_reducible apply List.mem_cons_of_mem))
  have lt := cell_lt ct0
  go_wp2_with fail
  clear ct0 ct1 ct2 ct3 ct4 ct5 ct6 ct7 ct8 ct9 ct10 lt
  (with_reducible refine (CK.out _).mono ?_)
  rintro e w2 ⟨rfl, hb⟩
  replace H := H.below hb
  clear hb
  have ct0 := H.cell (w.heap.size) 0 (.int .i64 mo) (by repeat (first | with_reducible exact List.mem_cons_self | with_reducible apply List.mem_cons_of_mem))
  have ct1 := H.cell (w.heap.size) 1 (.int .i64 ra) (by repeat (first | with_reducible exact List.mem_cons_self | with_reducible apply List.mem_cons_of_mem))
  have ct2 := H.cell (w.heap.size) 2 (.int .i64 ki) (by repeat (first | with_reducible exact List.mem_cons_self | with_reducible apply List.mem_cons_of_mem))
  have ct3 := H.cell (w.heap.size) 3 (.int .i64 co) (by repeat (first | with_reducible exact List.mem_cons_self | with_reducible apply List.mem_cons_of_mem))
  have ct4 := H.cell (w.heap.size) 4 (.int .i64 st) (by repeat (first | with_reducible exact List.mem_cons_self | with_reducible apply List.mem_cons_of_mem))
  have ct5 := H.cell (w.heap.size) 5 (.int .i64 en) (by repeat (first | with_reducible exact List.mem_cons_self | with_reducible apply List.mem_cons_of_mem))
  have ct6 := H.cell (w.heap.size) 6 (.int .i64 ms) (by repeat (first | with_reducible exact List.mem_cons_self | with_reducible apply List.mem_cons_of_mem))
  have ct7 := H.cell (w.heap.size) 7 (.bool bk) (by repeat (first | with_reducible exact List.mem_cons_self | with_reducible apply List.mem_cons_of_mem))
  have ct8 := H.cell (w.heap.size) 8 (.bool lg) (by repeat (first | with_reducible exact List.mem_cons_self | with_reducible apply List.mem_cons_of_mem))
  have ct9 := H.cell (w.heap.size) 9 (.bool eo) (by repeat (first | with_reducible exact List.mem_cons_self | with_reducible apply List.mem_cons_of_mem))
  have ct10 := H.cell (w.heap.size) 10 (.int .i64 ro) (by repeat (first | with_reducible exact List.mem_cons_self | with_reducible apply List.mem_cons_of_mem))
  have lt := cell_lt ct0
  go_wp2_with fail
  clear ct0 ct1 ct2 ct3 ct4 ct5 ct6 ct7 ct8 ct9 ct10 lt
  (with_reducible refine (SHT.out _).mono ?_)
  rintro e w3 ⟨rfl, hb⟩
  replace H := H.below hb
  clear hb
  go_wp2
  go_ret
  exact ⟨rfl, H.old⟩
theorem wrap16 (x : Int) (h : -9223372036854775808 ≤ x ∧ x < 9223372036854775808) : IntKind.i64.wrap x = x := by rw [IntKind.wrap_i64]; omega
/-- The last step isn't between the ends: it is the other end, or beyond it, or no day. -/
theorem Tm.Walk.beyond {t : Tm} {X E : Nat → Int} {m : Nat} (h : t.Walk X E m) (e : E m = 0) : if t.bk = true then X m ≤ t.st else t.en ≤ X m := by
  have l := h.last e
  have one := h.one
  cases hb : t.bk
  · have u := h.up hb 0 m (by omega) (Nat.le_refl _) e
    rw [h.x0, show t.an = t.st by simp [Tm.an, hb]] at u
    simp
    omega
  · have u := h.down hb 0 m (by omega) (Nat.le_refl _) e
    rw [h.x0, show t.an = t.en by simp [Tm.an, hb]] at u
    simp
    omega
set_option maxHeartbeats 16000000 in
set_option maxRecDepth 100000 in
theorem dstub_false_A (mo ra ki co st en ms : Int) (lg eo : Bool) (ro : Int) (p : Nat) (X E : Nat → Int) (w : World) (hL : FactsT w) (hc : (Tm.mk mo ra ki co st en ms false lg eo ro).code = 0) (hs : en - st ≤ 6200) (hWk : (Tm.mk mo ra ki co st en ms false lg eo ro).Walk X E (p + 1)) (hw : E (p + 1) = 0 ∧ X (p + 1) = en) : Calls Tryz.prog 5 #[.agg #[.int .i64 mo, .int .i64 ra, .int .i64 ki, .int .i64 co, .int .i64 st, .int .i64 en, .int .i64 ms, .bool false, .bool lg, .bool eo, .int .i64 ro]] w fun e w' => e = .returned (.bool true) ∧ Below w.heap.size w w' := by
  have H := (Held.start w).add (f := factsTF) hL
  have CK := Lib.hid (fun v => rcheck15 mo ra ki co st en ms false lg eo ro 0 v hc)
  obtain ⟨hf, hd, ho, -, -⟩ := Tm.of_zero hc
  have mb : 1 ≤ ms ∧ ms ≤ 12 := mo_bd hf.2.2.2
  have SHT := Lib.hid (fun v => short_any mo ra ki co st en ms false lg eo ro 200 true v hd.1 hd.2 ho (by omega) (decide_eq_true (by omega)))
  have top := hWk.top
  have W0k : (Tm.mk mo ra ki co st en ms false false eo ro).Walk X E (p + 1) := hWk.long rfl rfl rfl rfl rfl
  have W1k : (Tm.mk mo ra ki co st en ms false true eo ro).Walk X E (p + 1) := hWk.long rfl rfl rfl rfl rfl
  have OS := Lib.hid (fun v h => of_dd mo ra ki co st en ms false false eo ro X E (p + 1) p v h hc ho (by omega) W0k (by unfold Tm.q; rw [if_neg (fun g => by cases g.1)]; (try rfl)))
  have OL := Lib.hid (fun v h => of_dd mo ra ki co st en ms false true eo ro X E (p + 1) p v h hc ho (by omega) W1k (by unfold Tm.q; rw [if_neg (fun g => g.2.2 hw)]; (try rfl)))
  obtain ⟨Y, hY⟩ : ∃ Y, (Tm.mk mo ra ki co st en ms false false eo ro).dd X p = Y := ⟨_, rfl⟩
  obtain ⟨Z, hZ⟩ : ∃ Z, (Tm.mk mo ra ki co st en ms false true eo ro).dd X p = Z := ⟨_, rfl⟩
  have MV := Lib.hid (fun (z : Int) (v : World) (hp : ((p : Int) + 1) * ms = z) => rmove_any st z (X (p + 1)) (E (p + 1)) eo v (by
    have := hWk.mv (p + 1)
    rw [show (((p + 1) : Nat) : Int) * (Tm.mk mo ra ki co st en ms false lg eo ro).ap = z by rw [← hp]; rfl] at this
    exact this))
  have YZ : Hid (∀ i, Y i = Z i) := Lib.hid (fun i => by rw [← hY, ← hZ]; rfl)
  have EC := Lib.hid (hWk.code (p + 1))
  have HW := Lib.hid hw
  obtain ⟨z, hz⟩ : ∃ z, ((p : Int) + 1) * ms = z := ⟨_, rfl⟩
  have bz : -20000 ≤ z ∧ z ≤ 20000 := by
    have := mul_bd2 (k := ((p : Int) + 1)) (a := ms) (by omega) (by omega) mb.1 mb.2
    rw [← hz]
    skip
    omega
  have M1 := Lib.hid (fun v => MV.out z v hz)
  have HZZ := Lib.hid hz
  rw [hY] at OS
  rw [hZ] at OL
  clear hc hf hd ho hs hWk W0k W1k hY hZ hw hz MV
  clear hL
  go_enter Tryz.func5, Tryz.ntmps5
  go_wp2_with fail
  replace H := H.box_11 (w.heap.size) (.int .i64 mo) (.int .i64 ra) (.int .i64 ki) (.int .i64 co) (.int .i64 st) (.int .i64 en) (.int .i64 ms) (.bool false) (.bool lg) (.bool eo) (.int .i64 ro) 23 rfl
  (with_reducible refine (dshown_any _ (H.factsT (by repeat (first | with_reducible exact List.mem_cons_self | with_reducible apply List.mem_cons_of_mem)))).mono ?_)
  rintro e w1 ⟨rfl, hb⟩
  replace H := H.below hb
  clear hb
  have ct0 := H.cell (w.heap.size) 0 (.int .i64 mo) (by repeat (first | with_reducible exact List.mem_cons_self | with_reducible apply List.mem_cons_of_mem))
  have ct1 := H.cell (w.heap.size) 1 (.int .i64 ra) (by repeat (first | with_reducible exact List.mem_cons_self | with_reducible apply List.mem_cons_of_mem))
  have ct2 := H.cell (w.heap.size) 2 (.int .i64 ki) (by repeat (first | with_reducible exact List.mem_cons_self | with_reducible apply List.mem_cons_of_mem))
  have ct3 := H.cell (w.heap.size) 3 (.int .i64 co) (by repeat (first | with_reducible exact List.mem_cons_self | with_reducible apply List.mem_cons_of_mem))
  have ct4 := H.cell (w.heap.size) 4 (.int .i64 st) (by repeat (first | with_reducible exact List.mem_cons_self | with_reducible apply List.mem_cons_of_mem))
  have ct5 := H.cell (w.heap.size) 5 (.int .i64 en) (by repeat (first | with_reducible exact List.mem_cons_self | with_reducible apply List.mem_cons_of_mem))
  have ct6 := H.cell (w.heap.size) 6 (.int .i64 ms) (by repeat (first | with_reducible exact List.mem_cons_self | with_reducible apply List.mem_cons_of_mem))
  have ct7 := H.cell (w.heap.size) 7 (.bool false) (by repeat (first | with_reducible exact List.mem_cons_self | with_reducible apply List.mem_cons_of_mem))
  have ct8 := H.cell (w.heap.size) 8 (.bool lg) (by repeat (first | with_reducible exact List.mem_cons_self | with_reducible apply List.mem_cons_of_mem))
  have ct9 := H.cell (w.heap.size) 9 (.bool eo) (by repeat (first | with_reducible exact List.mem_cons_self | with_reducible apply List.mem_cons_of_mem))
  have ct10 := H.cell (w.heap.size) 10 (.int .i64 ro) (by repeat (first | with_reducible exact List.mem_cons_self | with_reducible apply List.mem_cons_of_mem))
  have lt := cell_lt ct0
  go_wp2_with fail
  clear ct0 ct1 ct2 ct3 ct4 ct5 ct6 ct7 ct8 ct9 ct10 lt
  (with_reducible refine (CK.out _).mono ?_)
  rintro e w2 ⟨rfl, hb⟩
  replace H := H.below hb
  clear hb
  have ct0 := H.cell (w.heap.size) 0 (.int .i64 mo) (by repeat (first | with_reducible exact List.mem_cons_self | with_reducible apply List.mem_cons_of_mem))
  have ct1 := H.cell (w.heap.size) 1 (.int .i64 ra) (by repeat (first | with_reducible exact List.mem_cons_self | with_reducible apply List.mem_cons_of_mem))
  have ct2 := H.cell (w.heap.size) 2 (.int .i64 ki) (by repeat (first | with_reducible exact List.mem_cons_self | with_reducible apply List.mem_cons_of_mem))
  have ct3 := H.cell (w.heap.size) 3 (.int .i64 co) (by repeat (first | with_reducible exact List.mem_cons_self | with_reducible apply List.mem_cons_of_mem))
  have ct4 := H.cell (w.heap.size) 4 (.int .i64 st) (by repeat (first | with_reducible exact List.mem_cons_self | with_reducible apply List.mem_cons_of_mem))
  have ct5 := H.cell (w.heap.size) 5 (.int .i64 en) (by repeat (first | with_reducible exact List.mem_cons_self | with_reducible apply List.mem_cons_of_mem))
  have ct6 := H.cell (w.heap.size) 6 (.int .i64 ms) (by repeat (first | with_reducible exact List.mem_cons_self | with_reducible apply List.mem_cons_of_mem))
  have ct7 := H.cell (w.heap.size) 7 (.bool false) (by repeat (first | with_reducible exact List.mem_cons_self | with_reducible apply List.mem_cons_of_mem))
  have ct8 := H.cell (w.heap.size) 8 (.bool lg) (by repeat (first | with_reducible exact List.mem_cons_self | with_reducible apply List.mem_cons_of_mem))
  have ct9 := H.cell (w.heap.size) 9 (.bool eo) (by repeat (first | with_reducible exact List.mem_cons_self | with_reducible apply List.mem_cons_of_mem))
  have ct10 := H.cell (w.heap.size) 10 (.int .i64 ro) (by repeat (first | with_reducible exact List.mem_cons_self | with_reducible apply List.mem_cons_of_mem))
  have lt := cell_lt ct0
  go_wp2_with fail
  clear ct0 ct1 ct2 ct3 ct4 ct5 ct6 ct7 ct8 ct9 ct10 lt
  (with_reducible refine (SHT.out _).mono ?_)
  rintro e w3 ⟨rfl, hb⟩
  replace H := H.below hb
  clear hb
  have ct0 := H.cell (w.heap.size) 0 (.int .i64 mo) (by repeat (first | with_reducible exact List.mem_cons_self | with_reducible apply List.mem_cons_of_mem))
  have ct1 := H.cell (w.heap.size) 1 (.int .i64 ra) (by repeat (first | with_reducible exact List.mem_cons_self | with_reducible apply List.mem_cons_of_mem))
  have ct2 := H.cell (w.heap.size) 2 (.int .i64 ki) (by repeat (first | with_reducible exact List.mem_cons_self | with_reducible apply List.mem_cons_of_mem))
  have ct3 := H.cell (w.heap.size) 3 (.int .i64 co) (by repeat (first | with_reducible exact List.mem_cons_self | with_reducible apply List.mem_cons_of_mem))
  have ct4 := H.cell (w.heap.size) 4 (.int .i64 st) (by repeat (first | with_reducible exact List.mem_cons_self | with_reducible apply List.mem_cons_of_mem))
  have ct5 := H.cell (w.heap.size) 5 (.int .i64 en) (by repeat (first | with_reducible exact List.mem_cons_self | with_reducible apply List.mem_cons_of_mem))
  have ct6 := H.cell (w.heap.size) 6 (.int .i64 ms) (by repeat (first | with_reducible exact List.mem_cons_self | with_reducible apply List.mem_cons_of_mem))
  have ct7 := H.cell (w.heap.size) 7 (.bool false) (by repeat (first | with_reducible exact List.mem_cons_self | with_reducible apply List.mem_cons_of_mem))
  have ct8 := H.cell (w.heap.size) 8 (.bool lg) (by repeat (first | with_reducible exact List.mem_cons_self | with_reducible apply List.mem_cons_of_mem))
  have ct9 := H.cell (w.heap.size) 9 (.bool eo) (by repeat (first | with_reducible exact List.mem_cons_self | with_reducible apply List.mem_cons_of_mem))
  have ct10 := H.cell (w.heap.size) 10 (.int .i64 ro) (by repeat (first | with_reducible exact List.mem_cons_self | with_reducible apply List.mem_cons_of_mem))
  have lt := cell_lt ct0
  go_wp2_with fail
  clear ct0 ct1 ct2 ct3 ct4 ct5 ct6 ct7 ct8 ct9 ct10 lt
  replace H := H.box_11 (w3.heap.size) (.int .i64 mo) (.int .i64 ra) (.int .i64 ki) (.int .i64 co) (.int .i64 st) (.int .i64 en) (.int .i64 ms) (.bool false) (.bool false) (.bool eo) (.int .i64 ro) 23 rfl
  replace H := H.box_11 (w3.heap.size + 1) (.int .i64 mo) (.int .i64 ra) (.int .i64 ki) (.int .i64 co) (.int .i64 st) (.int .i64 en) (.int .i64 ms) (.bool false) (.bool true) (.bool eo) (.int .i64 ro) 23 (by simp)
  (with_reducible refine (OS.out _ (H.factsT (by repeat (first | with_reducible exact List.mem_cons_self | with_reducible apply List.mem_cons_of_mem)))).mono ?_)
  rintro e w4 ⟨aA, cA, rfl, hd, hb⟩
  replace H := (H.below hb).add (f := daysF aA Y (p + 1 + 1) cA) hd
  clear hb hd
  have cl0 := H.cell (w3.heap.size + 1) 0 (.int .i64 mo) (by repeat (first | with_reducible exact List.mem_cons_self | with_reducible apply List.mem_cons_of_mem))
  have cl1 := H.cell (w3.heap.size + 1) 1 (.int .i64 ra) (by repeat (first | with_reducible exact List.mem_cons_self | with_reducible apply List.mem_cons_of_mem))
  have cl2 := H.cell (w3.heap.size + 1) 2 (.int .i64 ki) (by repeat (first | with_reducible exact List.mem_cons_self | with_reducible apply List.mem_cons_of_mem))
  have cl3 := H.cell (w3.heap.size + 1) 3 (.int .i64 co) (by repeat (first | with_reducible exact List.mem_cons_self | with_reducible apply List.mem_cons_of_mem))
  have cl4 := H.cell (w3.heap.size + 1) 4 (.int .i64 st) (by repeat (first | with_reducible exact List.mem_cons_self | with_reducible apply List.mem_cons_of_mem))
  have cl5 := H.cell (w3.heap.size + 1) 5 (.int .i64 en) (by repeat (first | with_reducible exact List.mem_cons_self | with_reducible apply List.mem_cons_of_mem))
  have cl6 := H.cell (w3.heap.size + 1) 6 (.int .i64 ms) (by repeat (first | with_reducible exact List.mem_cons_self | with_reducible apply List.mem_cons_of_mem))
  have cl7 := H.cell (w3.heap.size + 1) 7 (.bool false) (by repeat (first | with_reducible exact List.mem_cons_self | with_reducible apply List.mem_cons_of_mem))
  have cl8 := H.cell (w3.heap.size + 1) 8 (.bool true) (by repeat (first | with_reducible exact List.mem_cons_self | with_reducible apply List.mem_cons_of_mem))
  have cl9 := H.cell (w3.heap.size + 1) 9 (.bool eo) (by repeat (first | with_reducible exact List.mem_cons_self | with_reducible apply List.mem_cons_of_mem))
  have cl10 := H.cell (w3.heap.size + 1) 10 (.int .i64 ro) (by repeat (first | with_reducible exact List.mem_cons_self | with_reducible apply List.mem_cons_of_mem))
  have ll := cell_lt cl0
  go_wp2_with fail
  clear cl0 cl1 cl2 cl3 cl4 cl5 cl6 cl7 cl8 cl9 cl10 ll
  (with_reducible refine (OL.out _ (H.factsT (by repeat (first | with_reducible exact List.mem_cons_self | with_reducible apply List.mem_cons_of_mem)))).mono ?_)
  rintro e w5 ⟨aB, cB, rfl, hd, hb⟩
  replace H := (H.below hb).add (f := daysF aB Z (p + 1 + 1) cB) hd
  clear hb hd
  have hz := HZZ.out
  have tn : decide ((p : Int) + 1 + 1 < 2) = false := decide_eq_false (by omega)
  have ct0 := H.cell (w.heap.size) 0 (.int .i64 mo) (by repeat (first | with_reducible exact List.mem_cons_self | with_reducible apply List.mem_cons_of_mem))
  have ct1 := H.cell (w.heap.size) 1 (.int .i64 ra) (by repeat (first | with_reducible exact List.mem_cons_self | with_reducible apply List.mem_cons_of_mem))
  have ct2 := H.cell (w.heap.size) 2 (.int .i64 ki) (by repeat (first | with_reducible exact List.mem_cons_self | with_reducible apply List.mem_cons_of_mem))
  have ct3 := H.cell (w.heap.size) 3 (.int .i64 co) (by repeat (first | with_reducible exact List.mem_cons_self | with_reducible apply List.mem_cons_of_mem))
  have ct4 := H.cell (w.heap.size) 4 (.int .i64 st) (by repeat (first | with_reducible exact List.mem_cons_self | with_reducible apply List.mem_cons_of_mem))
  have ct5 := H.cell (w.heap.size) 5 (.int .i64 en) (by repeat (first | with_reducible exact List.mem_cons_self | with_reducible apply List.mem_cons_of_mem))
  have ct6 := H.cell (w.heap.size) 6 (.int .i64 ms) (by repeat (first | with_reducible exact List.mem_cons_self | with_reducible apply List.mem_cons_of_mem))
  have ct7 := H.cell (w.heap.size) 7 (.bool false) (by repeat (first | with_reducible exact List.mem_cons_self | with_reducible apply List.mem_cons_of_mem))
  have ct8 := H.cell (w.heap.size) 8 (.bool lg) (by repeat (first | with_reducible exact List.mem_cons_self | with_reducible apply List.mem_cons_of_mem))
  have ct9 := H.cell (w.heap.size) 9 (.bool eo) (by repeat (first | with_reducible exact List.mem_cons_self | with_reducible apply List.mem_cons_of_mem))
  have ct10 := H.cell (w.heap.size) 10 (.int .i64 ro) (by repeat (first | with_reducible exact List.mem_cons_self | with_reducible apply List.mem_cons_of_mem))
  have lt := cell_lt ct0
  go_wp2_with fail
  clear ct0 ct1 ct2 ct3 ct4 ct5 ct6 ct7 ct8 ct9 ct10 lt
  clear hz
  (with_reducible refine (M1.out _).mono ?_)
  rintro e w6 ⟨rfl, hb⟩
  replace H := H.below hb
  clear hb
  rw [HW.out.1, HW.out.2]
  go_wp2_with fail
  (with_reducible refine (rrow_yes aA (p + 1 + 1) cA Y aB cB Z _ (by omega) (H.days (ao := aA) (X := Y) (n := (p + 1 + 1)) (cap := cA) (by repeat (first | with_reducible exact List.mem_cons_self | with_reducible apply List.mem_cons_of_mem))) (H.days (ao := aB) (X := Z) (n := (p + 1 + 1)) (cap := cB) (by repeat (first | with_reducible exact List.mem_cons_self | with_reducible apply List.mem_cons_of_mem))) (fun i _ => YZ.out i)).mono ?_)
  rintro e w7 ⟨rfl, hb⟩
  replace H := H.below hb
  clear hb
  go_wp2
  go_ret
  exact ⟨rfl, H.old⟩
set_option maxHeartbeats 16000000 in
set_option maxRecDepth 100000 in
theorem dstub_false_B (mo ra ki co st en ms : Int) (lg eo : Bool) (ro : Int) (X E : Nat → Int) (w : World) (hL : FactsT w) (hc : (Tm.mk mo ra ki co st en ms false lg eo ro).code = 0) (hs : en - st ≤ 6200) (hWk : (Tm.mk mo ra ki co st en ms false lg eo ro).Walk X E 1) (hw : ¬ (E 1 = 0 ∧ X 1 = en)) : Calls Tryz.prog 5 #[.agg #[.int .i64 mo, .int .i64 ra, .int .i64 ki, .int .i64 co, .int .i64 st, .int .i64 en, .int .i64 ms, .bool false, .bool lg, .bool eo, .int .i64 ro]] w fun e w' => e = .returned (.bool true) ∧ Below w.heap.size w w' := by
  have H := (Held.start w).add (f := factsTF) hL
  have CK := Lib.hid (fun v => rcheck15 mo ra ki co st en ms false lg eo ro 0 v hc)
  obtain ⟨hf, hd, ho, -, -⟩ := Tm.of_zero hc
  have mb : 1 ≤ ms ∧ ms ≤ 12 := mo_bd hf.2.2.2
  have SHT := Lib.hid (fun v => short_any mo ra ki co st en ms false lg eo ro 200 true v hd.1 hd.2 ho (by omega) (decide_eq_true (by omega)))
  have top := hWk.top
  have W0k : (Tm.mk mo ra ki co st en ms false false eo ro).Walk X E 1 := hWk.long rfl rfl rfl rfl rfl
  have W1k : (Tm.mk mo ra ki co st en ms false true eo ro).Walk X E 1 := hWk.long rfl rfl rfl rfl rfl
  have OS := Lib.hid (fun v h => of_dd mo ra ki co st en ms false false eo ro X E 1 0 v h hc ho (by omega) W0k (by unfold Tm.q; rw [if_neg (fun g => by cases g.1)]; (try rfl)))
  have OL := Lib.hid (fun v h => of_dd mo ra ki co st en ms false true eo ro X E 1 0 v h hc ho (by omega) W1k (by unfold Tm.q; rw [if_neg (fun g => by omega)]; (try rfl)))
  obtain ⟨Y, hY⟩ : ∃ Y, (Tm.mk mo ra ki co st en ms false false eo ro).dd X 0 = Y := ⟨_, rfl⟩
  obtain ⟨Z, hZ⟩ : ∃ Z, (Tm.mk mo ra ki co st en ms false true eo ro).dd X 0 = Z := ⟨_, rfl⟩
  have MV := Lib.hid (fun (z : Int) (v : World) (hp : 1 * ms = z) => rmove_any st z (X 1) (E 1) eo v (by
    have := hWk.mv 1
    rw [show ((1 : Nat) : Int) * (Tm.mk mo ra ki co st en ms false lg eo ro).ap = z by rw [← hp]; rfl] at this
    exact this))
  have YZ : Hid (∀ i, Y i = Z i) := Lib.hid (fun i => by rw [← hY, ← hZ]; rfl)
  have EC := Lib.hid (hWk.code 1)
  have HW := Lib.hid hw
  obtain ⟨z, hz⟩ : ∃ z, 1 * ms = z := ⟨_, rfl⟩
  have bz : -20000 ≤ z ∧ z ≤ 20000 := by
    have := mul_bd2 (k := 1) (a := ms) (by omega) (by omega) mb.1 mb.2
    rw [← hz]
    skip
    omega
  have M1 := Lib.hid (fun v => MV.out z v hz)
  have HZZ := Lib.hid hz
  rw [hY] at OS
  rw [hZ] at OL
  clear hc hf hd ho hs hWk W0k W1k hY hZ hw hz MV
  clear hL
  go_enter Tryz.func5, Tryz.ntmps5
  go_wp2_with fail
  replace H := H.box_11 (w.heap.size) (.int .i64 mo) (.int .i64 ra) (.int .i64 ki) (.int .i64 co) (.int .i64 st) (.int .i64 en) (.int .i64 ms) (.bool false) (.bool lg) (.bool eo) (.int .i64 ro) 23 rfl
  (with_reducible refine (dshown_any _ (H.factsT (by repeat (first | with_reducible exact List.mem_cons_self | with_reducible apply List.mem_cons_of_mem)))).mono ?_)
  rintro e w1 ⟨rfl, hb⟩
  replace H := H.below hb
  clear hb
  have ct0 := H.cell (w.heap.size) 0 (.int .i64 mo) (by repeat (first | with_reducible exact List.mem_cons_self | with_reducible apply List.mem_cons_of_mem))
  have ct1 := H.cell (w.heap.size) 1 (.int .i64 ra) (by repeat (first | with_reducible exact List.mem_cons_self | with_reducible apply List.mem_cons_of_mem))
  have ct2 := H.cell (w.heap.size) 2 (.int .i64 ki) (by repeat (first | with_reducible exact List.mem_cons_self | with_reducible apply List.mem_cons_of_mem))
  have ct3 := H.cell (w.heap.size) 3 (.int .i64 co) (by repeat (first | with_reducible exact List.mem_cons_self | with_reducible apply List.mem_cons_of_mem))
  have ct4 := H.cell (w.heap.size) 4 (.int .i64 st) (by repeat (first | with_reducible exact List.mem_cons_self | with_reducible apply List.mem_cons_of_mem))
  have ct5 := H.cell (w.heap.size) 5 (.int .i64 en) (by repeat (first | with_reducible exact List.mem_cons_self | with_reducible apply List.mem_cons_of_mem))
  have ct6 := H.cell (w.heap.size) 6 (.int .i64 ms) (by repeat (first | with_reducible exact List.mem_cons_self | with_reducible apply List.mem_cons_of_mem))
  have ct7 := H.cell (w.heap.size) 7 (.bool false) (by repeat (first | with_reducible exact List.mem_cons_self | with_reducible apply List.mem_cons_of_mem))
  have ct8 := H.cell (w.heap.size) 8 (.bool lg) (by repeat (first | with_reducible exact List.mem_cons_self | with_reducible apply List.mem_cons_of_mem))
  have ct9 := H.cell (w.heap.size) 9 (.bool eo) (by repeat (first | with_reducible exact List.mem_cons_self | with_reducible apply List.mem_cons_of_mem))
  have ct10 := H.cell (w.heap.size) 10 (.int .i64 ro) (by repeat (first | with_reducible exact List.mem_cons_self | with_reducible apply List.mem_cons_of_mem))
  have lt := cell_lt ct0
  go_wp2_with fail
  clear ct0 ct1 ct2 ct3 ct4 ct5 ct6 ct7 ct8 ct9 ct10 lt
  (with_reducible refine (CK.out _).mono ?_)
  rintro e w2 ⟨rfl, hb⟩
  replace H := H.below hb
  clear hb
  have ct0 := H.cell (w.heap.size) 0 (.int .i64 mo) (by repeat (first | with_reducible exact List.mem_cons_self | with_reducible apply List.mem_cons_of_mem))
  have ct1 := H.cell (w.heap.size) 1 (.int .i64 ra) (by repeat (first | with_reducible exact List.mem_cons_self | with_reducible apply List.mem_cons_of_mem))
  have ct2 := H.cell (w.heap.size) 2 (.int .i64 ki) (by repeat (first | with_reducible exact List.mem_cons_self | with_reducible apply List.mem_cons_of_mem))
  have ct3 := H.cell (w.heap.size) 3 (.int .i64 co) (by repeat (first | with_reducible exact List.mem_cons_self | with_reducible apply List.mem_cons_of_mem))
  have ct4 := H.cell (w.heap.size) 4 (.int .i64 st) (by repeat (first | with_reducible exact List.mem_cons_self | with_reducible apply List.mem_cons_of_mem))
  have ct5 := H.cell (w.heap.size) 5 (.int .i64 en) (by repeat (first | with_reducible exact List.mem_cons_self | with_reducible apply List.mem_cons_of_mem))
  have ct6 := H.cell (w.heap.size) 6 (.int .i64 ms) (by repeat (first | with_reducible exact List.mem_cons_self | with_reducible apply List.mem_cons_of_mem))
  have ct7 := H.cell (w.heap.size) 7 (.bool false) (by repeat (first | with_reducible exact List.mem_cons_self | with_reducible apply List.mem_cons_of_mem))
  have ct8 := H.cell (w.heap.size) 8 (.bool lg) (by repeat (first | with_reducible exact List.mem_cons_self | with_reducible apply List.mem_cons_of_mem))
  have ct9 := H.cell (w.heap.size) 9 (.bool eo) (by repeat (first | with_reducible exact List.mem_cons_self | with_reducible apply List.mem_cons_of_mem))
  have ct10 := H.cell (w.heap.size) 10 (.int .i64 ro) (by repeat (first | with_reducible exact List.mem_cons_self | with_reducible apply List.mem_cons_of_mem))
  have lt := cell_lt ct0
  go_wp2_with fail
  clear ct0 ct1 ct2 ct3 ct4 ct5 ct6 ct7 ct8 ct9 ct10 lt
  (with_reducible refine (SHT.out _).mono ?_)
  rintro e w3 ⟨rfl, hb⟩
  replace H := H.below hb
  clear hb
  have ct0 := H.cell (w.heap.size) 0 (.int .i64 mo) (by repeat (first | with_reducible exact List.mem_cons_self | with_reducible apply List.mem_cons_of_mem))
  have ct1 := H.cell (w.heap.size) 1 (.int .i64 ra) (by repeat (first | with_reducible exact List.mem_cons_self | with_reducible apply List.mem_cons_of_mem))
  have ct2 := H.cell (w.heap.size) 2 (.int .i64 ki) (by repeat (first | with_reducible exact List.mem_cons_self | with_reducible apply List.mem_cons_of_mem))
  have ct3 := H.cell (w.heap.size) 3 (.int .i64 co) (by repeat (first | with_reducible exact List.mem_cons_self | with_reducible apply List.mem_cons_of_mem))
  have ct4 := H.cell (w.heap.size) 4 (.int .i64 st) (by repeat (first | with_reducible exact List.mem_cons_self | with_reducible apply List.mem_cons_of_mem))
  have ct5 := H.cell (w.heap.size) 5 (.int .i64 en) (by repeat (first | with_reducible exact List.mem_cons_self | with_reducible apply List.mem_cons_of_mem))
  have ct6 := H.cell (w.heap.size) 6 (.int .i64 ms) (by repeat (first | with_reducible exact List.mem_cons_self | with_reducible apply List.mem_cons_of_mem))
  have ct7 := H.cell (w.heap.size) 7 (.bool false) (by repeat (first | with_reducible exact List.mem_cons_self | with_reducible apply List.mem_cons_of_mem))
  have ct8 := H.cell (w.heap.size) 8 (.bool lg) (by repeat (first | with_reducible exact List.mem_cons_self | with_reducible apply List.mem_cons_of_mem))
  have ct9 := H.cell (w.heap.size) 9 (.bool eo) (by repeat (first | with_reducible exact List.mem_cons_self | with_reducible apply List.mem_cons_of_mem))
  have ct10 := H.cell (w.heap.size) 10 (.int .i64 ro) (by repeat (first | with_reducible exact List.mem_cons_self | with_reducible apply List.mem_cons_of_mem))
  have lt := cell_lt ct0
  go_wp2_with fail
  clear ct0 ct1 ct2 ct3 ct4 ct5 ct6 ct7 ct8 ct9 ct10 lt
  replace H := H.box_11 (w3.heap.size) (.int .i64 mo) (.int .i64 ra) (.int .i64 ki) (.int .i64 co) (.int .i64 st) (.int .i64 en) (.int .i64 ms) (.bool false) (.bool false) (.bool eo) (.int .i64 ro) 23 rfl
  replace H := H.box_11 (w3.heap.size + 1) (.int .i64 mo) (.int .i64 ra) (.int .i64 ki) (.int .i64 co) (.int .i64 st) (.int .i64 en) (.int .i64 ms) (.bool false) (.bool true) (.bool eo) (.int .i64 ro) 23 (by simp)
  (with_reducible refine (OS.out _ (H.factsT (by repeat (first | with_reducible exact List.mem_cons_self | with_reducible apply List.mem_cons_of_mem)))).mono ?_)
  rintro e w4 ⟨aA, cA, rfl, hd, hb⟩
  replace H := (H.below hb).add (f := daysF aA Y (0 + 1 + 1) cA) hd
  clear hb hd
  have cl0 := H.cell (w3.heap.size + 1) 0 (.int .i64 mo) (by repeat (first | with_reducible exact List.mem_cons_self | with_reducible apply List.mem_cons_of_mem))
  have cl1 := H.cell (w3.heap.size + 1) 1 (.int .i64 ra) (by repeat (first | with_reducible exact List.mem_cons_self | with_reducible apply List.mem_cons_of_mem))
  have cl2 := H.cell (w3.heap.size + 1) 2 (.int .i64 ki) (by repeat (first | with_reducible exact List.mem_cons_self | with_reducible apply List.mem_cons_of_mem))
  have cl3 := H.cell (w3.heap.size + 1) 3 (.int .i64 co) (by repeat (first | with_reducible exact List.mem_cons_self | with_reducible apply List.mem_cons_of_mem))
  have cl4 := H.cell (w3.heap.size + 1) 4 (.int .i64 st) (by repeat (first | with_reducible exact List.mem_cons_self | with_reducible apply List.mem_cons_of_mem))
  have cl5 := H.cell (w3.heap.size + 1) 5 (.int .i64 en) (by repeat (first | with_reducible exact List.mem_cons_self | with_reducible apply List.mem_cons_of_mem))
  have cl6 := H.cell (w3.heap.size + 1) 6 (.int .i64 ms) (by repeat (first | with_reducible exact List.mem_cons_self | with_reducible apply List.mem_cons_of_mem))
  have cl7 := H.cell (w3.heap.size + 1) 7 (.bool false) (by repeat (first | with_reducible exact List.mem_cons_self | with_reducible apply List.mem_cons_of_mem))
  have cl8 := H.cell (w3.heap.size + 1) 8 (.bool true) (by repeat (first | with_reducible exact List.mem_cons_self | with_reducible apply List.mem_cons_of_mem))
  have cl9 := H.cell (w3.heap.size + 1) 9 (.bool eo) (by repeat (first | with_reducible exact List.mem_cons_self | with_reducible apply List.mem_cons_of_mem))
  have cl10 := H.cell (w3.heap.size + 1) 10 (.int .i64 ro) (by repeat (first | with_reducible exact List.mem_cons_self | with_reducible apply List.mem_cons_of_mem))
  have ll := cell_lt cl0
  go_wp2_with fail
  clear cl0 cl1 cl2 cl3 cl4 cl5 cl6 cl7 cl8 cl9 cl10 ll
  (with_reducible refine (OL.out _ (H.factsT (by repeat (first | with_reducible exact List.mem_cons_self | with_reducible apply List.mem_cons_of_mem)))).mono ?_)
  rintro e w5 ⟨aB, cB, rfl, hd, hb⟩
  replace H := (H.below hb).add (f := daysF aB Z (0 + 1 + 1) cB) hd
  clear hb hd
  have hz := HZZ.out
  have ct0 := H.cell (w.heap.size) 0 (.int .i64 mo) (by repeat (first | with_reducible exact List.mem_cons_self | with_reducible apply List.mem_cons_of_mem))
  have ct1 := H.cell (w.heap.size) 1 (.int .i64 ra) (by repeat (first | with_reducible exact List.mem_cons_self | with_reducible apply List.mem_cons_of_mem))
  have ct2 := H.cell (w.heap.size) 2 (.int .i64 ki) (by repeat (first | with_reducible exact List.mem_cons_self | with_reducible apply List.mem_cons_of_mem))
  have ct3 := H.cell (w.heap.size) 3 (.int .i64 co) (by repeat (first | with_reducible exact List.mem_cons_self | with_reducible apply List.mem_cons_of_mem))
  have ct4 := H.cell (w.heap.size) 4 (.int .i64 st) (by repeat (first | with_reducible exact List.mem_cons_self | with_reducible apply List.mem_cons_of_mem))
  have ct5 := H.cell (w.heap.size) 5 (.int .i64 en) (by repeat (first | with_reducible exact List.mem_cons_self | with_reducible apply List.mem_cons_of_mem))
  have ct6 := H.cell (w.heap.size) 6 (.int .i64 ms) (by repeat (first | with_reducible exact List.mem_cons_self | with_reducible apply List.mem_cons_of_mem))
  have ct7 := H.cell (w.heap.size) 7 (.bool false) (by repeat (first | with_reducible exact List.mem_cons_self | with_reducible apply List.mem_cons_of_mem))
  have ct8 := H.cell (w.heap.size) 8 (.bool lg) (by repeat (first | with_reducible exact List.mem_cons_self | with_reducible apply List.mem_cons_of_mem))
  have ct9 := H.cell (w.heap.size) 9 (.bool eo) (by repeat (first | with_reducible exact List.mem_cons_self | with_reducible apply List.mem_cons_of_mem))
  have ct10 := H.cell (w.heap.size) 10 (.int .i64 ro) (by repeat (first | with_reducible exact List.mem_cons_self | with_reducible apply List.mem_cons_of_mem))
  have lt := cell_lt ct0
  go_wp2_with fail
  clear ct0 ct1 ct2 ct3 ct4 ct5 ct6 ct7 ct8 ct9 ct10 lt
  clear hz
  (with_reducible refine (M1.out _).mono ?_)
  rintro e w6 ⟨rfl, hb⟩
  replace H := H.below hb
  clear hb
  obtain ⟨x, hx⟩ : ∃ x, X 1 = x := ⟨_, rfl⟩
  rw [hx]
  have HX := Lib.hid hx
  clear hx
  rcases EC.out with ee | ee
  · rw [ee]
    have tx : (x == en) = false := by rw [beq_eq_false_iff_ne]; intro e; exact HW.out ⟨ee, HX.out.trans e⟩
    clear ee
    go_wp2_with fail
    (with_reducible refine (rrow_yes aA (0 + 1 + 1) cA Y aB cB Z _ (by omega) (H.days (ao := aA) (X := Y) (n := (0 + 1 + 1)) (cap := cA) (by repeat (first | with_reducible exact List.mem_cons_self | with_reducible apply List.mem_cons_of_mem))) (H.days (ao := aB) (X := Z) (n := (0 + 1 + 1)) (cap := cB) (by repeat (first | with_reducible exact List.mem_cons_self | with_reducible apply List.mem_cons_of_mem))) (fun i _ => YZ.out i)).mono ?_)
    rintro e w7 ⟨rfl, hb⟩
    replace H := H.below hb
    clear hb
    go_wp2
    go_ret
    exact ⟨rfl, H.old⟩
  · rw [ee]
    clear ee
    go_wp2_with fail
    (with_reducible refine (rrow_yes aA (0 + 1 + 1) cA Y aB cB Z _ (by omega) (H.days (ao := aA) (X := Y) (n := (0 + 1 + 1)) (cap := cA) (by repeat (first | with_reducible exact List.mem_cons_self | with_reducible apply List.mem_cons_of_mem))) (H.days (ao := aB) (X := Z) (n := (0 + 1 + 1)) (cap := cB) (by repeat (first | with_reducible exact List.mem_cons_self | with_reducible apply List.mem_cons_of_mem))) (fun i _ => YZ.out i)).mono ?_)
    rintro e w7 ⟨rfl, hb⟩
    replace H := H.below hb
    clear hb
    go_wp2
    go_ret
    exact ⟨rfl, H.old⟩
set_option maxHeartbeats 16000000 in
set_option maxRecDepth 100000 in
theorem dstub_false_C (mo ra ki co st en ms : Int) (lg eo : Bool) (ro : Int) (r : Nat) (X E : Nat → Int) (w : World) (hL : FactsT w) (hc : (Tm.mk mo ra ki co st en ms false lg eo ro).code = 0) (hs : en - st ≤ 6200) (hWk : (Tm.mk mo ra ki co st en ms false lg eo ro).Walk X E (r + 1 + 1)) (hw : ¬ (E (r + 1 + 1) = 0 ∧ X (r + 1 + 1) = en)) : Calls Tryz.prog 5 #[.agg #[.int .i64 mo, .int .i64 ra, .int .i64 ki, .int .i64 co, .int .i64 st, .int .i64 en, .int .i64 ms, .bool false, .bool lg, .bool eo, .int .i64 ro]] w fun e w' => e = .returned (.bool true) ∧ Below w.heap.size w w' := by
  have H := (Held.start w).add (f := factsTF) hL
  have CK := Lib.hid (fun v => rcheck15 mo ra ki co st en ms false lg eo ro 0 v hc)
  obtain ⟨hf, hd, ho, -, -⟩ := Tm.of_zero hc
  have mb : 1 ≤ ms ∧ ms ≤ 12 := mo_bd hf.2.2.2
  have SHT := Lib.hid (fun v => short_any mo ra ki co st en ms false lg eo ro 200 true v hd.1 hd.2 ho (by omega) (decide_eq_true (by omega)))
  have top := hWk.top
  have W0k : (Tm.mk mo ra ki co st en ms false false eo ro).Walk X E (r + 1 + 1) := hWk.long rfl rfl rfl rfl rfl
  have W1k : (Tm.mk mo ra ki co st en ms false true eo ro).Walk X E (r + 1 + 1) := hWk.long rfl rfl rfl rfl rfl
  have OS := Lib.hid (fun v h => of_dd mo ra ki co st en ms false false eo ro X E (r + 1 + 1) (r + 1) v h hc ho (by omega) W0k (by unfold Tm.q; rw [if_neg (fun g => by cases g.1)]; (try rfl)))
  have OL := Lib.hid (fun v h => of_dd mo ra ki co st en ms false true eo ro X E (r + 1 + 1) r v h hc ho (by omega) W1k (by unfold Tm.q; rw [if_pos ⟨rfl, by omega, hw⟩]; (try rfl)))
  obtain ⟨Y, hY⟩ : ∃ Y, (Tm.mk mo ra ki co st en ms false false eo ro).dd X (r + 1) = Y := ⟨_, rfl⟩
  obtain ⟨Z, hZ⟩ : ∃ Z, (Tm.mk mo ra ki co st en ms false true eo ro).dd X r = Z := ⟨_, rfl⟩
  have MV := Lib.hid (fun (z : Int) (v : World) (hp : ((r : Int) + 1 + 1) * ms = z) => rmove_any st z (X (r + 1 + 1)) (E (r + 1 + 1)) eo v (by
    have := hWk.mv (r + 1 + 1)
    rw [show (((r + 1 + 1) : Nat) : Int) * (Tm.mk mo ra ki co st en ms false lg eo ro).ap = z by rw [← hp]; rfl] at this
    exact this))
  have YN : Hid (Y (r + 1 + 1) = en) := Lib.hid (by rw [← hY]; exact Tm.dd_end _ _ _ W0k.x0)
  have ZY : Hid (∀ i, i < r + 1 + 1 → Z i = ld (dl Y (r + 1) ++ [en]) i) := Lib.hid (fun i hi => by
    by_cases c : i < r + 1
    · have e1 : ld (dl Y (r + 1) ++ [en]) i = ld (dl Y (r + 1)) i := by simp [ld, dl, List.getElem?_append, c]
      have d1 : (Tm.mk mo ra ki co st en ms false true eo ro).dd X r i = X i := by simp [Tm.dd, show i ≤ r by omega]
      have d0 : (Tm.mk mo ra ki co st en ms false false eo ro).dd X (r + 1) i = X i := by simp [Tm.dd, show i ≤ r + 1 by omega]
      rw [e1, ld_dl c, ← hZ, ← hY, d1, d0]
    · obtain rfl : i = r + 1 := by omega
      have e1 : ld (dl Y (r + 1) ++ [en]) (r + 1) = en := by simp [ld, dl]
      rw [e1, ← hZ, Tm.dd_end _ _ _ W1k.x0])
  have BY := Lib.hid (fun e => hWk.beyond e)
  have EC := Lib.hid (hWk.code (r + 1 + 1))
  have HW := Lib.hid hw
  obtain ⟨z, hz⟩ : ∃ z, ((r : Int) + 1 + 1) * ms = z := ⟨_, rfl⟩
  have bz : -20000 ≤ z ∧ z ≤ 20000 := by
    have := mul_bd2 (k := ((r : Int) + 1 + 1)) (a := ms) (by omega) (by omega) mb.1 mb.2
    rw [← hz]
    skip
    omega
  have M1 := Lib.hid (fun v => MV.out z v hz)
  have HZZ := Lib.hid hz
  rw [hY] at OS
  rw [hZ] at OL
  clear hc hf hd ho hs hWk W0k W1k hY hZ hw hz MV
  clear hL
  go_enter Tryz.func5, Tryz.ntmps5
  go_wp2_with fail
  replace H := H.box_11 (w.heap.size) (.int .i64 mo) (.int .i64 ra) (.int .i64 ki) (.int .i64 co) (.int .i64 st) (.int .i64 en) (.int .i64 ms) (.bool false) (.bool lg) (.bool eo) (.int .i64 ro) 23 rfl
  (with_reducible refine (dshown_any _ (H.factsT (by repeat (first | with_reducible exact List.mem_cons_self | with_reducible apply List.mem_cons_of_mem)))).mono ?_)
  rintro e w1 ⟨rfl, hb⟩
  replace H := H.below hb
  clear hb
  have ct0 := H.cell (w.heap.size) 0 (.int .i64 mo) (by repeat (first | with_reducible exact List.mem_cons_self | with_reducible apply List.mem_cons_of_mem))
  have ct1 := H.cell (w.heap.size) 1 (.int .i64 ra) (by repeat (first | with_reducible exact List.mem_cons_self | with_reducible apply List.mem_cons_of_mem))
  have ct2 := H.cell (w.heap.size) 2 (.int .i64 ki) (by repeat (first | with_reducible exact List.mem_cons_self | with_reducible apply List.mem_cons_of_mem))
  have ct3 := H.cell (w.heap.size) 3 (.int .i64 co) (by repeat (first | with_reducible exact List.mem_cons_self | with_reducible apply List.mem_cons_of_mem))
  have ct4 := H.cell (w.heap.size) 4 (.int .i64 st) (by repeat (first | with_reducible exact List.mem_cons_self | with_reducible apply List.mem_cons_of_mem))
  have ct5 := H.cell (w.heap.size) 5 (.int .i64 en) (by repeat (first | with_reducible exact List.mem_cons_self | with_reducible apply List.mem_cons_of_mem))
  have ct6 := H.cell (w.heap.size) 6 (.int .i64 ms) (by repeat (first | with_reducible exact List.mem_cons_self | with_reducible apply List.mem_cons_of_mem))
  have ct7 := H.cell (w.heap.size) 7 (.bool false) (by repeat (first | with_reducible exact List.mem_cons_self | with_reducible apply List.mem_cons_of_mem))
  have ct8 := H.cell (w.heap.size) 8 (.bool lg) (by repeat (first | with_reducible exact List.mem_cons_self | with_reducible apply List.mem_cons_of_mem))
  have ct9 := H.cell (w.heap.size) 9 (.bool eo) (by repeat (first | with_reducible exact List.mem_cons_self | with_reducible apply List.mem_cons_of_mem))
  have ct10 := H.cell (w.heap.size) 10 (.int .i64 ro) (by repeat (first | with_reducible exact List.mem_cons_self | with_reducible apply List.mem_cons_of_mem))
  have lt := cell_lt ct0
  go_wp2_with fail
  clear ct0 ct1 ct2 ct3 ct4 ct5 ct6 ct7 ct8 ct9 ct10 lt
  (with_reducible refine (CK.out _).mono ?_)
  rintro e w2 ⟨rfl, hb⟩
  replace H := H.below hb
  clear hb
  have ct0 := H.cell (w.heap.size) 0 (.int .i64 mo) (by repeat (first | with_reducible exact List.mem_cons_self | with_reducible apply List.mem_cons_of_mem))
  have ct1 := H.cell (w.heap.size) 1 (.int .i64 ra) (by repeat (first | with_reducible exact List.mem_cons_self | with_reducible apply List.mem_cons_of_mem))
  have ct2 := H.cell (w.heap.size) 2 (.int .i64 ki) (by repeat (first | with_reducible exact List.mem_cons_self | with_reducible apply List.mem_cons_of_mem))
  have ct3 := H.cell (w.heap.size) 3 (.int .i64 co) (by repeat (first | with_reducible exact List.mem_cons_self | with_reducible apply List.mem_cons_of_mem))
  have ct4 := H.cell (w.heap.size) 4 (.int .i64 st) (by repeat (first | with_reducible exact List.mem_cons_self | with_reducible apply List.mem_cons_of_mem))
  have ct5 := H.cell (w.heap.size) 5 (.int .i64 en) (by repeat (first | with_reducible exact List.mem_cons_self | with_reducible apply List.mem_cons_of_mem))
  have ct6 := H.cell (w.heap.size) 6 (.int .i64 ms) (by repeat (first | with_reducible exact List.mem_cons_self | with_reducible apply List.mem_cons_of_mem))
  have ct7 := H.cell (w.heap.size) 7 (.bool false) (by repeat (first | with_reducible exact List.mem_cons_self | with_reducible apply List.mem_cons_of_mem))
  have ct8 := H.cell (w.heap.size) 8 (.bool lg) (by repeat (first | with_reducible exact List.mem_cons_self | with_reducible apply List.mem_cons_of_mem))
  have ct9 := H.cell (w.heap.size) 9 (.bool eo) (by repeat (first | with_reducible exact List.mem_cons_self | with_reducible apply List.mem_cons_of_mem))
  have ct10 := H.cell (w.heap.size) 10 (.int .i64 ro) (by repeat (first | with_reducible exact List.mem_cons_self | with_reducible apply List.mem_cons_of_mem))
  have lt := cell_lt ct0
  go_wp2_with fail
  clear ct0 ct1 ct2 ct3 ct4 ct5 ct6 ct7 ct8 ct9 ct10 lt
  (with_reducible refine (SHT.out _).mono ?_)
  rintro e w3 ⟨rfl, hb⟩
  replace H := H.below hb
  clear hb
  have ct0 := H.cell (w.heap.size) 0 (.int .i64 mo) (by repeat (first | with_reducible exact List.mem_cons_self | with_reducible apply List.mem_cons_of_mem))
  have ct1 := H.cell (w.heap.size) 1 (.int .i64 ra) (by repeat (first | with_reducible exact List.mem_cons_self | with_reducible apply List.mem_cons_of_mem))
  have ct2 := H.cell (w.heap.size) 2 (.int .i64 ki) (by repeat (first | with_reducible exact List.mem_cons_self | with_reducible apply List.mem_cons_of_mem))
  have ct3 := H.cell (w.heap.size) 3 (.int .i64 co) (by repeat (first | with_reducible exact List.mem_cons_self | with_reducible apply List.mem_cons_of_mem))
  have ct4 := H.cell (w.heap.size) 4 (.int .i64 st) (by repeat (first | with_reducible exact List.mem_cons_self | with_reducible apply List.mem_cons_of_mem))
  have ct5 := H.cell (w.heap.size) 5 (.int .i64 en) (by repeat (first | with_reducible exact List.mem_cons_self | with_reducible apply List.mem_cons_of_mem))
  have ct6 := H.cell (w.heap.size) 6 (.int .i64 ms) (by repeat (first | with_reducible exact List.mem_cons_self | with_reducible apply List.mem_cons_of_mem))
  have ct7 := H.cell (w.heap.size) 7 (.bool false) (by repeat (first | with_reducible exact List.mem_cons_self | with_reducible apply List.mem_cons_of_mem))
  have ct8 := H.cell (w.heap.size) 8 (.bool lg) (by repeat (first | with_reducible exact List.mem_cons_self | with_reducible apply List.mem_cons_of_mem))
  have ct9 := H.cell (w.heap.size) 9 (.bool eo) (by repeat (first | with_reducible exact List.mem_cons_self | with_reducible apply List.mem_cons_of_mem))
  have ct10 := H.cell (w.heap.size) 10 (.int .i64 ro) (by repeat (first | with_reducible exact List.mem_cons_self | with_reducible apply List.mem_cons_of_mem))
  have lt := cell_lt ct0
  go_wp2_with fail
  clear ct0 ct1 ct2 ct3 ct4 ct5 ct6 ct7 ct8 ct9 ct10 lt
  replace H := H.box_11 (w3.heap.size) (.int .i64 mo) (.int .i64 ra) (.int .i64 ki) (.int .i64 co) (.int .i64 st) (.int .i64 en) (.int .i64 ms) (.bool false) (.bool false) (.bool eo) (.int .i64 ro) 23 rfl
  replace H := H.box_11 (w3.heap.size + 1) (.int .i64 mo) (.int .i64 ra) (.int .i64 ki) (.int .i64 co) (.int .i64 st) (.int .i64 en) (.int .i64 ms) (.bool false) (.bool true) (.bool eo) (.int .i64 ro) 23 (by simp)
  (with_reducible refine (OS.out _ (H.factsT (by repeat (first | with_reducible exact List.mem_cons_self | with_reducible apply List.mem_cons_of_mem)))).mono ?_)
  rintro e w4 ⟨aA, cA, rfl, hd, hb⟩
  replace H := (H.below hb).add (f := daysF aA Y ((r + 1) + 1 + 1) cA) hd
  clear hb hd
  have cl0 := H.cell (w3.heap.size + 1) 0 (.int .i64 mo) (by repeat (first | with_reducible exact List.mem_cons_self | with_reducible apply List.mem_cons_of_mem))
  have cl1 := H.cell (w3.heap.size + 1) 1 (.int .i64 ra) (by repeat (first | with_reducible exact List.mem_cons_self | with_reducible apply List.mem_cons_of_mem))
  have cl2 := H.cell (w3.heap.size + 1) 2 (.int .i64 ki) (by repeat (first | with_reducible exact List.mem_cons_self | with_reducible apply List.mem_cons_of_mem))
  have cl3 := H.cell (w3.heap.size + 1) 3 (.int .i64 co) (by repeat (first | with_reducible exact List.mem_cons_self | with_reducible apply List.mem_cons_of_mem))
  have cl4 := H.cell (w3.heap.size + 1) 4 (.int .i64 st) (by repeat (first | with_reducible exact List.mem_cons_self | with_reducible apply List.mem_cons_of_mem))
  have cl5 := H.cell (w3.heap.size + 1) 5 (.int .i64 en) (by repeat (first | with_reducible exact List.mem_cons_self | with_reducible apply List.mem_cons_of_mem))
  have cl6 := H.cell (w3.heap.size + 1) 6 (.int .i64 ms) (by repeat (first | with_reducible exact List.mem_cons_self | with_reducible apply List.mem_cons_of_mem))
  have cl7 := H.cell (w3.heap.size + 1) 7 (.bool false) (by repeat (first | with_reducible exact List.mem_cons_self | with_reducible apply List.mem_cons_of_mem))
  have cl8 := H.cell (w3.heap.size + 1) 8 (.bool true) (by repeat (first | with_reducible exact List.mem_cons_self | with_reducible apply List.mem_cons_of_mem))
  have cl9 := H.cell (w3.heap.size + 1) 9 (.bool eo) (by repeat (first | with_reducible exact List.mem_cons_self | with_reducible apply List.mem_cons_of_mem))
  have cl10 := H.cell (w3.heap.size + 1) 10 (.int .i64 ro) (by repeat (first | with_reducible exact List.mem_cons_self | with_reducible apply List.mem_cons_of_mem))
  have ll := cell_lt cl0
  go_wp2_with fail
  clear cl0 cl1 cl2 cl3 cl4 cl5 cl6 cl7 cl8 cl9 cl10 ll
  (with_reducible refine (OL.out _ (H.factsT (by repeat (first | with_reducible exact List.mem_cons_self | with_reducible apply List.mem_cons_of_mem)))).mono ?_)
  rintro e w5 ⟨aB, cB, rfl, hd, hb⟩
  replace H := (H.below hb).add (f := daysF aB Z (r + 1 + 1) cB) hd
  clear hb hd
  have hz := HZZ.out
  have tn : decide ((r : Int) + 1 + 1 + 1 < 2) = false := decide_eq_false (by omega)
  have ct0 := H.cell (w.heap.size) 0 (.int .i64 mo) (by repeat (first | with_reducible exact List.mem_cons_self | with_reducible apply List.mem_cons_of_mem))
  have ct1 := H.cell (w.heap.size) 1 (.int .i64 ra) (by repeat (first | with_reducible exact List.mem_cons_self | with_reducible apply List.mem_cons_of_mem))
  have ct2 := H.cell (w.heap.size) 2 (.int .i64 ki) (by repeat (first | with_reducible exact List.mem_cons_self | with_reducible apply List.mem_cons_of_mem))
  have ct3 := H.cell (w.heap.size) 3 (.int .i64 co) (by repeat (first | with_reducible exact List.mem_cons_self | with_reducible apply List.mem_cons_of_mem))
  have ct4 := H.cell (w.heap.size) 4 (.int .i64 st) (by repeat (first | with_reducible exact List.mem_cons_self | with_reducible apply List.mem_cons_of_mem))
  have ct5 := H.cell (w.heap.size) 5 (.int .i64 en) (by repeat (first | with_reducible exact List.mem_cons_self | with_reducible apply List.mem_cons_of_mem))
  have ct6 := H.cell (w.heap.size) 6 (.int .i64 ms) (by repeat (first | with_reducible exact List.mem_cons_self | with_reducible apply List.mem_cons_of_mem))
  have ct7 := H.cell (w.heap.size) 7 (.bool false) (by repeat (first | with_reducible exact List.mem_cons_self | with_reducible apply List.mem_cons_of_mem))
  have ct8 := H.cell (w.heap.size) 8 (.bool lg) (by repeat (first | with_reducible exact List.mem_cons_self | with_reducible apply List.mem_cons_of_mem))
  have ct9 := H.cell (w.heap.size) 9 (.bool eo) (by repeat (first | with_reducible exact List.mem_cons_self | with_reducible apply List.mem_cons_of_mem))
  have ct10 := H.cell (w.heap.size) 10 (.int .i64 ro) (by repeat (first | with_reducible exact List.mem_cons_self | with_reducible apply List.mem_cons_of_mem))
  have lt := cell_lt ct0
  go_wp2_with fail
  clear ct0 ct1 ct2 ct3 ct4 ct5 ct6 ct7 ct8 ct9 ct10 lt
  clear hz
  (with_reducible refine (M1.out _).mono ?_)
  rintro e w6 ⟨rfl, hb⟩
  replace H := H.below hb
  clear hb
  obtain ⟨x, hx⟩ : ∃ x, X (r + 1 + 1) = x := ⟨_, rfl⟩
  rw [hx]
  have HX := Lib.hid hx
  clear hx
  have tn2 : ((r : Int) + 1 + 1 + 1 == 2) = false := by rw [beq_eq_false_iff_ne]; omega
  rcases EC.out with ee | ee
  · rw [ee]
    have tx : (x == en) = false := by rw [beq_eq_false_iff_ne]; intro e; exact HW.out ⟨ee, HX.out.trans e⟩
    have ty : decide (x < en) = false := decide_eq_false (by have := BY.out ee; rw [HX.out] at this; simp at this; omega)
    clear ee
    have ct0 := H.cell (w.heap.size) 0 (.int .i64 mo) (by repeat (first | with_reducible exact List.mem_cons_self | with_reducible apply List.mem_cons_of_mem))
    have ct1 := H.cell (w.heap.size) 1 (.int .i64 ra) (by repeat (first | with_reducible exact List.mem_cons_self | with_reducible apply List.mem_cons_of_mem))
    have ct2 := H.cell (w.heap.size) 2 (.int .i64 ki) (by repeat (first | with_reducible exact List.mem_cons_self | with_reducible apply List.mem_cons_of_mem))
    have ct3 := H.cell (w.heap.size) 3 (.int .i64 co) (by repeat (first | with_reducible exact List.mem_cons_self | with_reducible apply List.mem_cons_of_mem))
    have ct4 := H.cell (w.heap.size) 4 (.int .i64 st) (by repeat (first | with_reducible exact List.mem_cons_self | with_reducible apply List.mem_cons_of_mem))
    have ct5 := H.cell (w.heap.size) 5 (.int .i64 en) (by repeat (first | with_reducible exact List.mem_cons_self | with_reducible apply List.mem_cons_of_mem))
    have ct6 := H.cell (w.heap.size) 6 (.int .i64 ms) (by repeat (first | with_reducible exact List.mem_cons_self | with_reducible apply List.mem_cons_of_mem))
    have ct7 := H.cell (w.heap.size) 7 (.bool false) (by repeat (first | with_reducible exact List.mem_cons_self | with_reducible apply List.mem_cons_of_mem))
    have ct8 := H.cell (w.heap.size) 8 (.bool lg) (by repeat (first | with_reducible exact List.mem_cons_self | with_reducible apply List.mem_cons_of_mem))
    have ct9 := H.cell (w.heap.size) 9 (.bool eo) (by repeat (first | with_reducible exact List.mem_cons_self | with_reducible apply List.mem_cons_of_mem))
    have ct10 := H.cell (w.heap.size) 10 (.int .i64 ro) (by repeat (first | with_reducible exact List.mem_cons_self | with_reducible apply List.mem_cons_of_mem))
    have lt := cell_lt ct0
    go_upto_region 28 with fail
    obtain ⟨bA, oA, rfl, hA⟩ := (H.days (ao := aA) (X := Y) (n := ((r + 1) + 1 + 1)) (cap := cA) (by repeat (first | with_reducible exact List.mem_cons_self | with_reducible apply List.mem_cons_of_mem))).2 (by omega)
    have hcA := (H.days (ao := some ⟨bA, oA, none⟩) (X := Y) (n := ((r + 1) + 1 + 1)) (cap := cA) (by repeat (first | with_reducible exact List.mem_cons_self | with_reducible apply List.mem_cons_of_mem))).1
    have a0 := hA (r + 1 + 1) (by omega)
    rw [YN.out] at a0
    replace H := H.add (f := .cell bA (oA + (r + 1 + 1)) (.int .i64 en)) a0
    have wa : IntKind.i64.wrap ((r : Int) + 1 + 1 + 1 - 2) = (r : Int) + 1 := by rw [wrap16 _ (by omega)]; omega
    have wb : IntKind.i64.wrap ((r : Int) + 1 + 1) = (r : Int) + 1 + 1 := wrap16 _ (by omega)
    have wc1 : (0 : Int) ≤ (r : Int) + 1 := by omega
    have wc2 : (r : Int) + 1 ≤ (cA : Int) := by omega
    have wc3 : ((r : Int) + 1).toNat = r + 1 := by omega
    have wd1 : (0 : Int) ≤ (r : Int) + 1 + 1 := by omega
    have wd2 : (r : Int) + 1 + 1 < (r : Int) + 1 + 1 + 1 := by omega
    have wd3 : ((r : Int) + 1 + 1).toNat = r + 1 + 1 := by omega
    clear a0 hA
    obtain ⟨i0, hi, hz0, hz1, hz2⟩ := info_parts infoInt13
    replace H := H.drew
    refine wp_region_held_drew (S := fun w' => w'.cell? ⟨bA, oA + (r + 1 + 1), none⟩ = some (.int .i64 en)) (by kernel_rfl) (H.cell (bA) (oA + (r + 1 + 1)) (.int .i64 en) (by repeat (first | with_reducible exact List.mem_cons_self | with_reducible apply List.mem_cons_of_mem))) (fun hHeld => ?_)
    obtain ⟨WD, hWD⟩ : ∃ WD, World.drew (w6) = WD := ⟨_, rfl⟩
    rw [hWD] at H hHeld ⊢
    clear hWD
    obtain ⟨b0, hb0⟩ : ∃ b0, WD.heap.size = b0 := ⟨_, rfl⟩
    have HB := Below.refl b0 WD
    have HWD := Lib.hid H
    have HS : Hid (∀ W, Below b0 WD W → b0 ≤ W.heap.size) := Lib.hid (fun W h => by have z := h.size; rw [hb0] at z; exact z)
    have HU : Hid (∀ W, Below b0 WD W → Below WD.heap.size WD W) := Lib.hid (fun W h => by rw [hb0]; exact h)
    clear hb0
    refine wpAnyH_take (i := 0) (oi := ⟨some 132, _, _, _, _, _⟩) (v := ?_) rfl (by kernel_rfl) (by kernel_rfl) (by kernel_rfl) (fun _ _ _ h => h) (Or.inl ⟨by rfl, ?_⟩) (by assumption) ?_
    rotate_left
    · intro w hSw; (try dsimp only at hSw); go_simp; try with_reducible rfl
    simp only [Act.put, List.setIfInBounds_toArray, List.set_cons_zero, List.set_cons_succ]
    refine wpAnyH_take (i := 1) (oi := ⟨some 133, _, _, _, _, _⟩) (v := ?_) rfl (by kernel_rfl) (by kernel_rfl) (by kernel_rfl) (fun _ _ _ h => h) (Or.inl ⟨by rfl, ?_⟩) (by assumption) ?_
    rotate_left
    · intro w hSw; (try dsimp only at hSw); go_simp; try with_reducible rfl
    simp only [Act.put, List.setIfInBounds_toArray, List.set_cons_zero, List.set_cons_succ]
    refine wpAnyH_take (i := 2) (oi := ⟨some 134, _, _, _, _, _⟩) (v := ?_) rfl (by kernel_rfl) (by kernel_rfl) (by kernel_rfl) (fun _ _ _ h => h) (Or.inl ⟨by rfl, ?_⟩) (by assumption) ?_
    rotate_left
    · intro w hSw; (try dsimp only at hSw); go_simp; try with_reducible rfl
    simp only [Act.put, List.setIfInBounds_toArray, List.set_cons_zero, List.set_cons_succ]
    refine wpAnyH_take (i := 4) (oi := ⟨some 136, _, _, _, _, _⟩) (v := ?_) rfl (by kernel_rfl) (by kernel_rfl) (by kernel_rfl) (fun _ _ _ h => h) (Or.inl ⟨by rfl, ?_⟩) (by assumption) ?_
    rotate_left
    · intro w hSw; (try dsimp only at hSw); go_simp; try with_reducible rfl
    simp only [Act.put, List.setIfInBounds_toArray, List.set_cons_zero, List.set_cons_succ]
    refine wpAnyH_take (i := 5) (oi := ⟨some 137, _, _, _, _, _⟩) (v := ?_) rfl (by kernel_rfl) (by kernel_rfl) (by kernel_rfl) (fun _ _ _ h => h) (Or.inl ⟨by rfl, ?_⟩) (by assumption) ?_
    rotate_left
    · intro w hSw; (try dsimp only at hSw); go_simp; try with_reducible rfl
    simp only [Act.put, List.setIfInBounds_toArray, List.set_cons_zero, List.set_cons_succ]
    refine wpAnyH_take (i := 6) (oi := ⟨some 138, _, _, _, _, _⟩) (v := ?_) rfl (by kernel_rfl) (by kernel_rfl) (by kernel_rfl) (fun _ _ _ h => h) (Or.inl ⟨by rfl, ?_⟩) (by assumption) ?_
    rotate_left
    · intro w hSw; (try dsimp only at hSw); go_simp; try with_reducible rfl
    simp only [Act.put, List.setIfInBounds_toArray, List.set_cons_zero, List.set_cons_succ]
    refine wpAnyH_take (i := 7) (oi := ⟨some 139, _, _, _, _, _⟩) (v := .slice (some ⟨bA, oA, none⟩) (r + 1) cA) rfl (by kernel_rfl) (by kernel_rfl) (by kernel_rfl) (fun _ _ _ h => h) (Or.inl ⟨by rfl, ?_⟩) (by assumption) ?_
    · intro w hSw; (try dsimp only at hSw); go_simp; (try with_reducible rfl); (try omega)
    simp only [Act.put, List.setIfInBounds_toArray, List.set_cons_zero, List.set_cons_succ]
    refine wpAnyH_take (i := 9) (oi := ⟨some 141, _, _, _, _, _⟩) (v := ?_) rfl (by kernel_rfl) (by kernel_rfl) (by kernel_rfl) (fun _ _ _ h => h) (Or.inl ⟨by rfl, ?_⟩) (by assumption) ?_
    rotate_left
    · intro w hSw; (try dsimp only at hSw); go_simp; try with_reducible rfl
    simp only [Act.put, List.setIfInBounds_toArray, List.set_cons_zero, List.set_cons_succ]
    refine wpAnyH_take (i := 10) (oi := ⟨some 142, _, _, _, _, _⟩) (v := ?_) rfl (by kernel_rfl) (by kernel_rfl) (by kernel_rfl) (fun _ _ _ h => h) (Or.inl ⟨by rfl, ?_⟩) (by assumption) ?_
    rotate_left
    · intro w hSw; (try dsimp only at hSw); go_simp; try with_reducible rfl
    simp only [Act.put, List.setIfInBounds_toArray, List.set_cons_zero, List.set_cons_succ]
    refine wpAnyH_take (i := 11) (oi := ⟨some 143, _, _, _, _, _⟩) (v := ?_) rfl (by kernel_rfl) (by kernel_rfl) (by kernel_rfl) (fun _ _ _ h => h) (Or.inl ⟨by rfl, ?_⟩) (by assumption) ?_
    rotate_left
    · intro w hSw; (try dsimp only at hSw); go_simp; try with_reducible rfl
    simp only [Act.put, List.setIfInBounds_toArray, List.set_cons_zero, List.set_cons_succ]
    refine wpAnyH_take (i := 12) (oi := ⟨some 144, _, _, _, _, _⟩) (v := ?_) rfl (by kernel_rfl) (by kernel_rfl) (by kernel_rfl) (fun _ _ _ h => h) (Or.inl ⟨by rfl, ?_⟩) (by assumption) ?_
    rotate_left
    · intro w hSw; (try dsimp only at hSw); go_simp; try with_reducible rfl
    simp only [Act.put, List.setIfInBounds_toArray, List.set_cons_zero, List.set_cons_succ]
    refine wpAnyH_take (i := 13) (oi := ⟨some 145, _, _, _, _, _⟩) (v := ?_) rfl (by kernel_rfl) (by kernel_rfl) (by kernel_rfl) (fun _ _ _ h => h) (Or.inl ⟨by rfl, ?_⟩) (by assumption) ?_
    rotate_left
    · intro w hSw; (try dsimp only at hSw); go_simp; try with_reducible rfl
    simp only [Act.put, List.setIfInBounds_toArray, List.set_cons_zero, List.set_cons_succ]
    refine wpAnyH_ready (rs := [3, 14]) (by kernel_rfl) (by simp) ?_
    refine AllReadyH.cons (o := ⟨some 135, _, _, _, _, _⟩) rfl (fun K hK => ?_) (AllReadyH.cons (o := ⟨some 146, _, _, _, _, _⟩) rfl (fun K hK => ?_) AllReadyH.nil)
    ·
      have OW := World.ownsRow_made (base := b0) (e := 3) (size := 1) WD #[] 0 (HS.out _ HB) (Nat.zero_le _) rfl
      replace H := H.alloc (.cells #[] 3)
      replace HB := HB.alloc (HS.out _ HB) (.cells #[] 3)
      go_simp
      refine hK.out _ _ (H.cell (bA) (oA + (r + 1 + 1)) (.int .i64 en) (by repeat (first | with_reducible exact List.mem_cons_self | with_reducible apply List.mem_cons_of_mem))) (fun hNew => ?_)
      clear hK K hHeld
      have hHeld := hNew
      clear hNew
      try simp only [Act.put, List.setIfInBounds_toArray, List.set_cons_zero, List.set_cons_succ]
      obtain ⟨T1, hT1⟩ : ∃ T, WD.heap.size = T := ⟨_, rfl⟩
      obtain ⟨U1, hU1⟩ : ∃ U, WD.alloc (.cells #[] 3) = U := ⟨_, rfl⟩
      rw [hU1] at H HB hHeld ⊢
      (try rw [hT1])
      rw [hU1] at OW
      (try rw [hT1] at OW)
      clear hT1 hU1
      refine wpAnyH_ready (rs := [8, 14]) (by kernel_rfl) (by simp) ?_
      refine AllReadyH.cons (o := ⟨some 140, _, _, _, _, _⟩) rfl (fun K hK => ?_) (AllReadyH.cons (o := ⟨some 146, _, _, _, _, _⟩) rfl (fun K hK => ?_) AllReadyH.nil)
      ·
        obtain ⟨v2, U2, hr, ho, hg⟩ := app13 b0 27 27 3 i0 (.int .i64 0) 1 8 Tryz.underlying27 hi hz0 hz1 hz2 rfl (by decide) _ _ _ OW (some ⟨bA, oA, none⟩) (r + 1) cA (il (dl Y (r + 1))) (row_days (((H.days (ao := some ⟨bA, oA, none⟩) (X := Y) (n := ((r + 1) + 1 + 1)) (cap := cA) (by repeat (first | with_reducible exact List.mem_cons_self | with_reducible apply List.mem_cons_of_mem)))).take (k := r + 1) (by omega))) (by omega) (by decide) (HS.out _ HB)
        have HB2 := HB.trans (grown_own (HS.out _ HB) OW hg)
        rw [Nat.zero_add, List.nil_append] at ho
        have H2 := HWD.out.below (HU.out _ HB2)
        clear H HB
        have H := H2
        have HB := HB2
        clear H2 HB2 OW
        have OW := ho
        clear ho hg
        (try rw [if_pos (by rfl)])
        refine Lib.wp_append_run _ (.tmp 135) (.tmp 139) 27 27 rfl _ _ rfl rfl _ _ hr ?_
        clear hr
        refine hK.out _ _ (H.cell (bA) (oA + (r + 1 + 1)) (.int .i64 en) (by repeat (first | with_reducible exact List.mem_cons_self | with_reducible apply List.mem_cons_of_mem))) (fun hNew => ?_)
        clear hK K hHeld
        have hHeld := hNew
        clear hNew
        try simp only [Act.put, List.setIfInBounds_toArray, List.set_cons_zero, List.set_cons_succ]
        refine wpAnyH_ready (rs := [14]) (by kernel_rfl) (by simp) ?_
        refine AllReadyH.cons (o := ⟨some 146, _, _, _, _, _⟩) rfl (fun K hK => ?_) AllReadyH.nil
        have RT := row_one U2 (en)
        replace OW := OW.alloc (.cells #[.int .i64 (en)] 3)
        replace H := H.alloc (.cells #[.int .i64 (en)] 3)
        replace HB := HB.alloc (HS.out _ HB) (.cells #[.int .i64 (en)] 3)
        go_simp
        refine hK.out _ _ (H.cell (bA) (oA + (r + 1 + 1)) (.int .i64 en) (by repeat (first | with_reducible exact List.mem_cons_self | with_reducible apply List.mem_cons_of_mem))) (fun hNew => ?_)
        clear hK K hHeld
        have hHeld := hNew
        clear hNew
        try simp only [Act.put, List.setIfInBounds_toArray, List.set_cons_zero, List.set_cons_succ]
        obtain ⟨T3, hT3⟩ : ∃ T, U2.heap.size = T := ⟨_, rfl⟩
        obtain ⟨U3, hU3⟩ : ∃ U, U2.alloc (.cells #[.int .i64 (en)] 3) = U := ⟨_, rfl⟩
        rw [hU3] at H HB hHeld ⊢
        (try rw [hT3])
        rw [hU3] at OW
        rw [hU3] at RT
        (try rw [hT3] at RT)
        clear hT3 hU3
        refine wpAnyH_ready (rs := [15]) (by kernel_rfl) (by simp) ?_
        refine AllReadyH.cons (o := ⟨some 147, _, _, _, _, _⟩) rfl (fun K hK => ?_) AllReadyH.nil
        obtain ⟨v4, U4, hr, ho, hg⟩ := app13 b0 27 27 3 i0 (.int .i64 0) 1 8 Tryz.underlying27 hi hz0 hz1 hz2 rfl (by decide) _ _ _ OW (some ⟨T3, 0, none⟩) 1 1 (il [en]) RT (by omega) (by decide) (HS.out _ HB)
        have HB2 := HB.trans (grown_own (HS.out _ HB) OW hg)
        rw [il_app] at ho
        obtain ⟨aN, cN, rfl, hN⟩ := own_days13 (n := r + 1 + 1) (l := (dl Y (r + 1) ++ [en])) (by simp [dl]) ho
        have HN := Lib.hid hN
        clear hN
        have H2 := HWD.out.below (HU.out _ HB2)
        clear H HB
        have H := H2
        have HB := HB2
        clear H2 HB2 OW
        have OW := ho
        clear ho hg
        (try rw [if_pos (by rfl)])
        refine Lib.wp_append_run _ (.tmp 140) (.tmp 146) 27 27 rfl _ _ rfl rfl _ _ hr ?_
        clear hr
        refine hK.out _ _ (H.cell (bA) (oA + (r + 1 + 1)) (.int .i64 en) (by repeat (first | with_reducible exact List.mem_cons_self | with_reducible apply List.mem_cons_of_mem))) (fun hNew => ?_)
        clear hK K hHeld
        have hHeld := hNew
        clear hNew
        try simp only [Act.put, List.setIfInBounds_toArray, List.set_cons_zero, List.set_cons_succ]
        clear RT
        refine wpAnyH_ready (rs := [16]) (by kernel_rfl) (by simp) ?_
        refine AllReadyH.cons (o := ⟨some 148, _, _, _, _, _⟩) rfl (fun K hK => ?_) AllReadyH.nil
        go_simp
        (with_reducible refine (rrow_yes aB (r + 1 + 1) cB Z aN cN (ld (dl Y (r + 1) ++ [en])) _ (by omega) (H.days (ao := aB) (X := Z) (n := (r + 1 + 1)) (cap := cB) (by repeat (first | with_reducible exact List.mem_cons_self | with_reducible apply List.mem_cons_of_mem))) HN.out (fun i hi => ZY.out i hi)).mono ?_)
        rintro e U5 ⟨rfl, hb⟩
        replace H := H.below hb
        replace HB := HB.trans (hb.mono (HS.out _ HB))
        (try replace OW := own_below13 OW hb)
        clear hb
        go_wp2_with fail
        refine hK.out _ _ (H.cell (bA) (oA + (r + 1 + 1)) (.int .i64 en) (by repeat (first | with_reducible exact List.mem_cons_self | with_reducible apply List.mem_cons_of_mem))) (fun hNew => ?_)
        clear hK K hHeld
        have hHeld := hNew
        clear hNew
        try simp only [Act.put, List.setIfInBounds_toArray, List.set_cons_zero, List.set_cons_succ]
        refine wpAnyH_take (i := 17) (oi := ⟨some 149, _, _, _, _, _⟩) (v := ?_) rfl (by kernel_rfl) (by kernel_rfl) (by kernel_rfl) (fun _ _ _ h => h) (Or.inl ⟨by rfl, ?_⟩) (by assumption) ?_
        rotate_left
        · intro w hSw; (try dsimp only at hSw); go_simp; try with_reducible rfl
        simp only [Act.put, List.setIfInBounds_toArray, List.set_cons_zero, List.set_cons_succ]
        refine wpAnyH_take (i := 18) (oi := ⟨some 2, _, _, _, _, _⟩) (v := ?_) rfl (by kernel_rfl) (by kernel_rfl) (by kernel_rfl) (fun _ _ _ h => h) (Or.inl ⟨by rfl, ?_⟩) (by assumption) ?_
        rotate_left
        · intro w hSw; (try dsimp only at hSw); go_simp; try with_reducible rfl
        simp only [Act.put, List.setIfInBounds_toArray, List.set_cons_zero, List.set_cons_succ]
        refine wpAnyH_done (by kernel_rfl) ?_ _
        clear hHeld
        go_wp2
        go_ret
        exact ⟨rfl, H.old⟩
      ·
        have nT := (World.ownsRow.lt OW T1 rfl).2
        have RT := row_one U1 (en)
        replace OW := OW.alloc (.cells #[.int .i64 (en)] 3)
        replace H := H.alloc (.cells #[.int .i64 (en)] 3)
        replace HB := HB.alloc (HS.out _ HB) (.cells #[.int .i64 (en)] 3)
        go_simp
        refine hK.out _ _ (H.cell (bA) (oA + (r + 1 + 1)) (.int .i64 en) (by repeat (first | with_reducible exact List.mem_cons_self | with_reducible apply List.mem_cons_of_mem))) (fun hNew => ?_)
        clear hK K hHeld
        have hHeld := hNew
        clear hNew
        try simp only [Act.put, List.setIfInBounds_toArray, List.set_cons_zero, List.set_cons_succ]
        obtain ⟨T6, hT6⟩ : ∃ T, U1.heap.size = T := ⟨_, rfl⟩
        obtain ⟨U6, hU6⟩ : ∃ U, U1.alloc (.cells #[.int .i64 (en)] 3) = U := ⟨_, rfl⟩
        rw [hU6] at H HB hHeld ⊢
        (try rw [hT6])
        rw [hU6] at OW
        rw [hU6] at RT
        (try rw [hT6] at RT)
        rw [hT6] at nT
        replace nT := Nat.ne_of_gt nT
        clear hT6 hU6
        refine wpAnyH_ready (rs := [8]) (by kernel_rfl) (by simp) ?_
        refine AllReadyH.cons (o := ⟨some 140, _, _, _, _, _⟩) rfl (fun K hK => ?_) AllReadyH.nil
        obtain ⟨v7, U7, hr, ho, hg⟩ := app13 b0 27 27 3 i0 (.int .i64 0) 1 8 Tryz.underlying27 hi hz0 hz1 hz2 rfl (by decide) _ _ _ OW (some ⟨bA, oA, none⟩) (r + 1) cA (il (dl Y (r + 1))) (row_days (((H.days (ao := some ⟨bA, oA, none⟩) (X := Y) (n := ((r + 1) + 1 + 1)) (cap := cA) (by repeat (first | with_reducible exact List.mem_cons_self | with_reducible apply List.mem_cons_of_mem)))).take (k := r + 1) (by omega))) (by omega) (by decide) (HS.out _ HB)
        have HB2 := HB.trans (grown_own (HS.out _ HB) OW hg)
        replace RT := RT.grown hg (fun e => nT (Option.some.inj e))
        rw [Nat.zero_add, List.nil_append] at ho
        have H2 := HWD.out.below (HU.out _ HB2)
        clear H HB
        have H := H2
        have HB := HB2
        clear H2 HB2 OW
        have OW := ho
        clear ho hg
        (try rw [if_pos (by rfl)])
        refine Lib.wp_append_run _ (.tmp 135) (.tmp 139) 27 27 rfl _ _ rfl rfl _ _ hr ?_
        clear hr
        refine hK.out _ _ (H.cell (bA) (oA + (r + 1 + 1)) (.int .i64 en) (by repeat (first | with_reducible exact List.mem_cons_self | with_reducible apply List.mem_cons_of_mem))) (fun hNew => ?_)
        clear hK K hHeld
        have hHeld := hNew
        clear hNew
        try simp only [Act.put, List.setIfInBounds_toArray, List.set_cons_zero, List.set_cons_succ]
        refine wpAnyH_ready (rs := [15]) (by kernel_rfl) (by simp) ?_
        refine AllReadyH.cons (o := ⟨some 147, _, _, _, _, _⟩) rfl (fun K hK => ?_) AllReadyH.nil
        obtain ⟨v8, U8, hr, ho, hg⟩ := app13 b0 27 27 3 i0 (.int .i64 0) 1 8 Tryz.underlying27 hi hz0 hz1 hz2 rfl (by decide) _ _ _ OW (some ⟨T6, 0, none⟩) 1 1 (il [en]) RT (by omega) (by decide) (HS.out _ HB)
        have HB2 := HB.trans (grown_own (HS.out _ HB) OW hg)
        rw [il_app] at ho
        obtain ⟨aN, cN, rfl, hN⟩ := own_days13 (n := r + 1 + 1) (l := (dl Y (r + 1) ++ [en])) (by simp [dl]) ho
        have HN := Lib.hid hN
        clear hN
        have H2 := HWD.out.below (HU.out _ HB2)
        clear H HB
        have H := H2
        have HB := HB2
        clear H2 HB2 OW
        have OW := ho
        clear ho hg
        (try rw [if_pos (by rfl)])
        refine Lib.wp_append_run _ (.tmp 140) (.tmp 146) 27 27 rfl _ _ rfl rfl _ _ hr ?_
        clear hr
        refine hK.out _ _ (H.cell (bA) (oA + (r + 1 + 1)) (.int .i64 en) (by repeat (first | with_reducible exact List.mem_cons_self | with_reducible apply List.mem_cons_of_mem))) (fun hNew => ?_)
        clear hK K hHeld
        have hHeld := hNew
        clear hNew
        try simp only [Act.put, List.setIfInBounds_toArray, List.set_cons_zero, List.set_cons_succ]
        clear RT
        refine wpAnyH_ready (rs := [16]) (by kernel_rfl) (by simp) ?_
        refine AllReadyH.cons (o := ⟨some 148, _, _, _, _, _⟩) rfl (fun K hK => ?_) AllReadyH.nil
        go_simp
        (with_reducible refine (rrow_yes aB (r + 1 + 1) cB Z aN cN (ld (dl Y (r + 1) ++ [en])) _ (by omega) (H.days (ao := aB) (X := Z) (n := (r + 1 + 1)) (cap := cB) (by repeat (first | with_reducible exact List.mem_cons_self | with_reducible apply List.mem_cons_of_mem))) HN.out (fun i hi => ZY.out i hi)).mono ?_)
        rintro e U9 ⟨rfl, hb⟩
        replace H := H.below hb
        replace HB := HB.trans (hb.mono (HS.out _ HB))
        (try replace OW := own_below13 OW hb)
        clear hb
        go_wp2_with fail
        refine hK.out _ _ (H.cell (bA) (oA + (r + 1 + 1)) (.int .i64 en) (by repeat (first | with_reducible exact List.mem_cons_self | with_reducible apply List.mem_cons_of_mem))) (fun hNew => ?_)
        clear hK K hHeld
        have hHeld := hNew
        clear hNew
        try simp only [Act.put, List.setIfInBounds_toArray, List.set_cons_zero, List.set_cons_succ]
        refine wpAnyH_take (i := 17) (oi := ⟨some 149, _, _, _, _, _⟩) (v := ?_) rfl (by kernel_rfl) (by kernel_rfl) (by kernel_rfl) (fun _ _ _ h => h) (Or.inl ⟨by rfl, ?_⟩) (by assumption) ?_
        rotate_left
        · intro w hSw; (try dsimp only at hSw); go_simp; try with_reducible rfl
        simp only [Act.put, List.setIfInBounds_toArray, List.set_cons_zero, List.set_cons_succ]
        refine wpAnyH_take (i := 18) (oi := ⟨some 2, _, _, _, _, _⟩) (v := ?_) rfl (by kernel_rfl) (by kernel_rfl) (by kernel_rfl) (fun _ _ _ h => h) (Or.inl ⟨by rfl, ?_⟩) (by assumption) ?_
        rotate_left
        · intro w hSw; (try dsimp only at hSw); go_simp; try with_reducible rfl
        simp only [Act.put, List.setIfInBounds_toArray, List.set_cons_zero, List.set_cons_succ]
        refine wpAnyH_done (by kernel_rfl) ?_ _
        clear hHeld
        go_wp2
        go_ret
        exact ⟨rfl, H.old⟩
    ·
      have RT := row_one WD (en)
      replace H := H.alloc (.cells #[.int .i64 (en)] 3)
      replace HB := HB.alloc (HS.out _ HB) (.cells #[.int .i64 (en)] 3)
      go_simp
      refine hK.out _ _ (H.cell (bA) (oA + (r + 1 + 1)) (.int .i64 en) (by repeat (first | with_reducible exact List.mem_cons_self | with_reducible apply List.mem_cons_of_mem))) (fun hNew => ?_)
      clear hK K hHeld
      have hHeld := hNew
      clear hNew
      try simp only [Act.put, List.setIfInBounds_toArray, List.set_cons_zero, List.set_cons_succ]
      obtain ⟨T10, hT10⟩ : ∃ T, WD.heap.size = T := ⟨_, rfl⟩
      obtain ⟨U10, hU10⟩ : ∃ U, WD.alloc (.cells #[.int .i64 (en)] 3) = U := ⟨_, rfl⟩
      rw [hU10] at H HB hHeld ⊢
      (try rw [hT10])
      rw [hU10] at RT
      (try rw [hT10] at RT)
      clear hT10 hU10
      refine wpAnyH_ready (rs := [3]) (by kernel_rfl) (by simp) ?_
      refine AllReadyH.cons (o := ⟨some 135, _, _, _, _, _⟩) rfl (fun K hK => ?_) AllReadyH.nil
      have nT := RT.lt16
      have OW := World.ownsRow_made (base := b0) (e := 3) (size := 1) U10 #[] 0 (HS.out _ HB) (Nat.zero_le _) rfl
      replace RT := RT.alloc (.cells #[] 3)
      replace H := H.alloc (.cells #[] 3)
      replace HB := HB.alloc (HS.out _ HB) (.cells #[] 3)
      go_simp
      refine hK.out _ _ (H.cell (bA) (oA + (r + 1 + 1)) (.int .i64 en) (by repeat (first | with_reducible exact List.mem_cons_self | with_reducible apply List.mem_cons_of_mem))) (fun hNew => ?_)
      clear hK K hHeld
      have hHeld := hNew
      clear hNew
      try simp only [Act.put, List.setIfInBounds_toArray, List.set_cons_zero, List.set_cons_succ]
      obtain ⟨T11, hT11⟩ : ∃ T, U10.heap.size = T := ⟨_, rfl⟩
      obtain ⟨U11, hU11⟩ : ∃ U, U10.alloc (.cells #[] 3) = U := ⟨_, rfl⟩
      rw [hU11] at H HB hHeld ⊢
      (try rw [hT11])
      rw [hU11] at OW
      rw [hU11] at RT
      (try rw [hT11] at OW)
      rw [hT11] at nT
      replace nT := Nat.ne_of_lt nT
      clear hT11 hU11
      refine wpAnyH_ready (rs := [8]) (by kernel_rfl) (by simp) ?_
      refine AllReadyH.cons (o := ⟨some 140, _, _, _, _, _⟩) rfl (fun K hK => ?_) AllReadyH.nil
      obtain ⟨v12, U12, hr, ho, hg⟩ := app13 b0 27 27 3 i0 (.int .i64 0) 1 8 Tryz.underlying27 hi hz0 hz1 hz2 rfl (by decide) _ _ _ OW (some ⟨bA, oA, none⟩) (r + 1) cA (il (dl Y (r + 1))) (row_days (((H.days (ao := some ⟨bA, oA, none⟩) (X := Y) (n := ((r + 1) + 1 + 1)) (cap := cA) (by repeat (first | with_reducible exact List.mem_cons_self | with_reducible apply List.mem_cons_of_mem)))).take (k := r + 1) (by omega))) (by omega) (by decide) (HS.out _ HB)
      have HB2 := HB.trans (grown_own (HS.out _ HB) OW hg)
      replace RT := RT.grown hg (fun e => nT (Option.some.inj e))
      rw [Nat.zero_add, List.nil_append] at ho
      have H2 := HWD.out.below (HU.out _ HB2)
      clear H HB
      have H := H2
      have HB := HB2
      clear H2 HB2 OW
      have OW := ho
      clear ho hg
      (try rw [if_pos (by rfl)])
      refine Lib.wp_append_run _ (.tmp 135) (.tmp 139) 27 27 rfl _ _ rfl rfl _ _ hr ?_
      clear hr
      refine hK.out _ _ (H.cell (bA) (oA + (r + 1 + 1)) (.int .i64 en) (by repeat (first | with_reducible exact List.mem_cons_self | with_reducible apply List.mem_cons_of_mem))) (fun hNew => ?_)
      clear hK K hHeld
      have hHeld := hNew
      clear hNew
      try simp only [Act.put, List.setIfInBounds_toArray, List.set_cons_zero, List.set_cons_succ]
      refine wpAnyH_ready (rs := [15]) (by kernel_rfl) (by simp) ?_
      refine AllReadyH.cons (o := ⟨some 147, _, _, _, _, _⟩) rfl (fun K hK => ?_) AllReadyH.nil
      obtain ⟨v13, U13, hr, ho, hg⟩ := app13 b0 27 27 3 i0 (.int .i64 0) 1 8 Tryz.underlying27 hi hz0 hz1 hz2 rfl (by decide) _ _ _ OW (some ⟨T10, 0, none⟩) 1 1 (il [en]) RT (by omega) (by decide) (HS.out _ HB)
      have HB2 := HB.trans (grown_own (HS.out _ HB) OW hg)
      rw [il_app] at ho
      obtain ⟨aN, cN, rfl, hN⟩ := own_days13 (n := r + 1 + 1) (l := (dl Y (r + 1) ++ [en])) (by simp [dl]) ho
      have HN := Lib.hid hN
      clear hN
      have H2 := HWD.out.below (HU.out _ HB2)
      clear H HB
      have H := H2
      have HB := HB2
      clear H2 HB2 OW
      have OW := ho
      clear ho hg
      (try rw [if_pos (by rfl)])
      refine Lib.wp_append_run _ (.tmp 140) (.tmp 146) 27 27 rfl _ _ rfl rfl _ _ hr ?_
      clear hr
      refine hK.out _ _ (H.cell (bA) (oA + (r + 1 + 1)) (.int .i64 en) (by repeat (first | with_reducible exact List.mem_cons_self | with_reducible apply List.mem_cons_of_mem))) (fun hNew => ?_)
      clear hK K hHeld
      have hHeld := hNew
      clear hNew
      try simp only [Act.put, List.setIfInBounds_toArray, List.set_cons_zero, List.set_cons_succ]
      clear RT
      refine wpAnyH_ready (rs := [16]) (by kernel_rfl) (by simp) ?_
      refine AllReadyH.cons (o := ⟨some 148, _, _, _, _, _⟩) rfl (fun K hK => ?_) AllReadyH.nil
      go_simp
      (with_reducible refine (rrow_yes aB (r + 1 + 1) cB Z aN cN (ld (dl Y (r + 1) ++ [en])) _ (by omega) (H.days (ao := aB) (X := Z) (n := (r + 1 + 1)) (cap := cB) (by repeat (first | with_reducible exact List.mem_cons_self | with_reducible apply List.mem_cons_of_mem))) HN.out (fun i hi => ZY.out i hi)).mono ?_)
      rintro e U14 ⟨rfl, hb⟩
      replace H := H.below hb
      replace HB := HB.trans (hb.mono (HS.out _ HB))
      (try replace OW := own_below13 OW hb)
      clear hb
      go_wp2_with fail
      refine hK.out _ _ (H.cell (bA) (oA + (r + 1 + 1)) (.int .i64 en) (by repeat (first | with_reducible exact List.mem_cons_self | with_reducible apply List.mem_cons_of_mem))) (fun hNew => ?_)
      clear hK K hHeld
      have hHeld := hNew
      clear hNew
      try simp only [Act.put, List.setIfInBounds_toArray, List.set_cons_zero, List.set_cons_succ]
      refine wpAnyH_take (i := 17) (oi := ⟨some 149, _, _, _, _, _⟩) (v := ?_) rfl (by kernel_rfl) (by kernel_rfl) (by kernel_rfl) (fun _ _ _ h => h) (Or.inl ⟨by rfl, ?_⟩) (by assumption) ?_
      rotate_left
      · intro w hSw; (try dsimp only at hSw); go_simp; try with_reducible rfl
      simp only [Act.put, List.setIfInBounds_toArray, List.set_cons_zero, List.set_cons_succ]
      refine wpAnyH_take (i := 18) (oi := ⟨some 2, _, _, _, _, _⟩) (v := ?_) rfl (by kernel_rfl) (by kernel_rfl) (by kernel_rfl) (fun _ _ _ h => h) (Or.inl ⟨by rfl, ?_⟩) (by assumption) ?_
      rotate_left
      · intro w hSw; (try dsimp only at hSw); go_simp; try with_reducible rfl
      simp only [Act.put, List.setIfInBounds_toArray, List.set_cons_zero, List.set_cons_succ]
      refine wpAnyH_done (by kernel_rfl) ?_ _
      clear hHeld
      go_wp2
      go_ret
      exact ⟨rfl, H.old⟩
  · rw [ee]
    clear ee
    have ct0 := H.cell (w.heap.size) 0 (.int .i64 mo) (by repeat (first | with_reducible exact List.mem_cons_self | with_reducible apply List.mem_cons_of_mem))
    have ct1 := H.cell (w.heap.size) 1 (.int .i64 ra) (by repeat (first | with_reducible exact List.mem_cons_self | with_reducible apply List.mem_cons_of_mem))
    have ct2 := H.cell (w.heap.size) 2 (.int .i64 ki) (by repeat (first | with_reducible exact List.mem_cons_self | with_reducible apply List.mem_cons_of_mem))
    have ct3 := H.cell (w.heap.size) 3 (.int .i64 co) (by repeat (first | with_reducible exact List.mem_cons_self | with_reducible apply List.mem_cons_of_mem))
    have ct4 := H.cell (w.heap.size) 4 (.int .i64 st) (by repeat (first | with_reducible exact List.mem_cons_self | with_reducible apply List.mem_cons_of_mem))
    have ct5 := H.cell (w.heap.size) 5 (.int .i64 en) (by repeat (first | with_reducible exact List.mem_cons_self | with_reducible apply List.mem_cons_of_mem))
    have ct6 := H.cell (w.heap.size) 6 (.int .i64 ms) (by repeat (first | with_reducible exact List.mem_cons_self | with_reducible apply List.mem_cons_of_mem))
    have ct7 := H.cell (w.heap.size) 7 (.bool false) (by repeat (first | with_reducible exact List.mem_cons_self | with_reducible apply List.mem_cons_of_mem))
    have ct8 := H.cell (w.heap.size) 8 (.bool lg) (by repeat (first | with_reducible exact List.mem_cons_self | with_reducible apply List.mem_cons_of_mem))
    have ct9 := H.cell (w.heap.size) 9 (.bool eo) (by repeat (first | with_reducible exact List.mem_cons_self | with_reducible apply List.mem_cons_of_mem))
    have ct10 := H.cell (w.heap.size) 10 (.int .i64 ro) (by repeat (first | with_reducible exact List.mem_cons_self | with_reducible apply List.mem_cons_of_mem))
    have lt := cell_lt ct0
    go_upto_region 28 with fail
    obtain ⟨bA, oA, rfl, hA⟩ := (H.days (ao := aA) (X := Y) (n := ((r + 1) + 1 + 1)) (cap := cA) (by repeat (first | with_reducible exact List.mem_cons_self | with_reducible apply List.mem_cons_of_mem))).2 (by omega)
    have hcA := (H.days (ao := some ⟨bA, oA, none⟩) (X := Y) (n := ((r + 1) + 1 + 1)) (cap := cA) (by repeat (first | with_reducible exact List.mem_cons_self | with_reducible apply List.mem_cons_of_mem))).1
    have a0 := hA (r + 1 + 1) (by omega)
    rw [YN.out] at a0
    replace H := H.add (f := .cell bA (oA + (r + 1 + 1)) (.int .i64 en)) a0
    have wa : IntKind.i64.wrap ((r : Int) + 1 + 1 + 1 - 2) = (r : Int) + 1 := by rw [wrap16 _ (by omega)]; omega
    have wb : IntKind.i64.wrap ((r : Int) + 1 + 1) = (r : Int) + 1 + 1 := wrap16 _ (by omega)
    have wc1 : (0 : Int) ≤ (r : Int) + 1 := by omega
    have wc2 : (r : Int) + 1 ≤ (cA : Int) := by omega
    have wc3 : ((r : Int) + 1).toNat = r + 1 := by omega
    have wd1 : (0 : Int) ≤ (r : Int) + 1 + 1 := by omega
    have wd2 : (r : Int) + 1 + 1 < (r : Int) + 1 + 1 + 1 := by omega
    have wd3 : ((r : Int) + 1 + 1).toNat = r + 1 + 1 := by omega
    clear a0 hA
    obtain ⟨i0, hi, hz0, hz1, hz2⟩ := info_parts infoInt13
    replace H := H.drew
    refine wp_region_held_drew (S := fun w' => w'.cell? ⟨bA, oA + (r + 1 + 1), none⟩ = some (.int .i64 en)) (by kernel_rfl) (H.cell (bA) (oA + (r + 1 + 1)) (.int .i64 en) (by repeat (first | with_reducible exact List.mem_cons_self | with_reducible apply List.mem_cons_of_mem))) (fun hHeld => ?_)
    obtain ⟨WD, hWD⟩ : ∃ WD, World.drew (w6) = WD := ⟨_, rfl⟩
    rw [hWD] at H hHeld ⊢
    clear hWD
    obtain ⟨b0, hb0⟩ : ∃ b0, WD.heap.size = b0 := ⟨_, rfl⟩
    have HB := Below.refl b0 WD
    have HWD := Lib.hid H
    have HS : Hid (∀ W, Below b0 WD W → b0 ≤ W.heap.size) := Lib.hid (fun W h => by have z := h.size; rw [hb0] at z; exact z)
    have HU : Hid (∀ W, Below b0 WD W → Below WD.heap.size WD W) := Lib.hid (fun W h => by rw [hb0]; exact h)
    clear hb0
    refine wpAnyH_take (i := 0) (oi := ⟨some 132, _, _, _, _, _⟩) (v := ?_) rfl (by kernel_rfl) (by kernel_rfl) (by kernel_rfl) (fun _ _ _ h => h) (Or.inl ⟨by rfl, ?_⟩) (by assumption) ?_
    rotate_left
    · intro w hSw; (try dsimp only at hSw); go_simp; try with_reducible rfl
    simp only [Act.put, List.setIfInBounds_toArray, List.set_cons_zero, List.set_cons_succ]
    refine wpAnyH_take (i := 1) (oi := ⟨some 133, _, _, _, _, _⟩) (v := ?_) rfl (by kernel_rfl) (by kernel_rfl) (by kernel_rfl) (fun _ _ _ h => h) (Or.inl ⟨by rfl, ?_⟩) (by assumption) ?_
    rotate_left
    · intro w hSw; (try dsimp only at hSw); go_simp; try with_reducible rfl
    simp only [Act.put, List.setIfInBounds_toArray, List.set_cons_zero, List.set_cons_succ]
    refine wpAnyH_take (i := 2) (oi := ⟨some 134, _, _, _, _, _⟩) (v := ?_) rfl (by kernel_rfl) (by kernel_rfl) (by kernel_rfl) (fun _ _ _ h => h) (Or.inl ⟨by rfl, ?_⟩) (by assumption) ?_
    rotate_left
    · intro w hSw; (try dsimp only at hSw); go_simp; try with_reducible rfl
    simp only [Act.put, List.setIfInBounds_toArray, List.set_cons_zero, List.set_cons_succ]
    refine wpAnyH_take (i := 4) (oi := ⟨some 136, _, _, _, _, _⟩) (v := ?_) rfl (by kernel_rfl) (by kernel_rfl) (by kernel_rfl) (fun _ _ _ h => h) (Or.inl ⟨by rfl, ?_⟩) (by assumption) ?_
    rotate_left
    · intro w hSw; (try dsimp only at hSw); go_simp; try with_reducible rfl
    simp only [Act.put, List.setIfInBounds_toArray, List.set_cons_zero, List.set_cons_succ]
    refine wpAnyH_take (i := 5) (oi := ⟨some 137, _, _, _, _, _⟩) (v := ?_) rfl (by kernel_rfl) (by kernel_rfl) (by kernel_rfl) (fun _ _ _ h => h) (Or.inl ⟨by rfl, ?_⟩) (by assumption) ?_
    rotate_left
    · intro w hSw; (try dsimp only at hSw); go_simp; try with_reducible rfl
    simp only [Act.put, List.setIfInBounds_toArray, List.set_cons_zero, List.set_cons_succ]
    refine wpAnyH_take (i := 6) (oi := ⟨some 138, _, _, _, _, _⟩) (v := ?_) rfl (by kernel_rfl) (by kernel_rfl) (by kernel_rfl) (fun _ _ _ h => h) (Or.inl ⟨by rfl, ?_⟩) (by assumption) ?_
    rotate_left
    · intro w hSw; (try dsimp only at hSw); go_simp; try with_reducible rfl
    simp only [Act.put, List.setIfInBounds_toArray, List.set_cons_zero, List.set_cons_succ]
    refine wpAnyH_take (i := 7) (oi := ⟨some 139, _, _, _, _, _⟩) (v := .slice (some ⟨bA, oA, none⟩) (r + 1) cA) rfl (by kernel_rfl) (by kernel_rfl) (by kernel_rfl) (fun _ _ _ h => h) (Or.inl ⟨by rfl, ?_⟩) (by assumption) ?_
    · intro w hSw; (try dsimp only at hSw); go_simp; (try with_reducible rfl); (try omega)
    simp only [Act.put, List.setIfInBounds_toArray, List.set_cons_zero, List.set_cons_succ]
    refine wpAnyH_take (i := 9) (oi := ⟨some 141, _, _, _, _, _⟩) (v := ?_) rfl (by kernel_rfl) (by kernel_rfl) (by kernel_rfl) (fun _ _ _ h => h) (Or.inl ⟨by rfl, ?_⟩) (by assumption) ?_
    rotate_left
    · intro w hSw; (try dsimp only at hSw); go_simp; try with_reducible rfl
    simp only [Act.put, List.setIfInBounds_toArray, List.set_cons_zero, List.set_cons_succ]
    refine wpAnyH_take (i := 10) (oi := ⟨some 142, _, _, _, _, _⟩) (v := ?_) rfl (by kernel_rfl) (by kernel_rfl) (by kernel_rfl) (fun _ _ _ h => h) (Or.inl ⟨by rfl, ?_⟩) (by assumption) ?_
    rotate_left
    · intro w hSw; (try dsimp only at hSw); go_simp; try with_reducible rfl
    simp only [Act.put, List.setIfInBounds_toArray, List.set_cons_zero, List.set_cons_succ]
    refine wpAnyH_take (i := 11) (oi := ⟨some 143, _, _, _, _, _⟩) (v := ?_) rfl (by kernel_rfl) (by kernel_rfl) (by kernel_rfl) (fun _ _ _ h => h) (Or.inl ⟨by rfl, ?_⟩) (by assumption) ?_
    rotate_left
    · intro w hSw; (try dsimp only at hSw); go_simp; try with_reducible rfl
    simp only [Act.put, List.setIfInBounds_toArray, List.set_cons_zero, List.set_cons_succ]
    refine wpAnyH_take (i := 12) (oi := ⟨some 144, _, _, _, _, _⟩) (v := ?_) rfl (by kernel_rfl) (by kernel_rfl) (by kernel_rfl) (fun _ _ _ h => h) (Or.inl ⟨by rfl, ?_⟩) (by assumption) ?_
    rotate_left
    · intro w hSw; (try dsimp only at hSw); go_simp; try with_reducible rfl
    simp only [Act.put, List.setIfInBounds_toArray, List.set_cons_zero, List.set_cons_succ]
    refine wpAnyH_take (i := 13) (oi := ⟨some 145, _, _, _, _, _⟩) (v := ?_) rfl (by kernel_rfl) (by kernel_rfl) (by kernel_rfl) (fun _ _ _ h => h) (Or.inl ⟨by rfl, ?_⟩) (by assumption) ?_
    rotate_left
    · intro w hSw; (try dsimp only at hSw); go_simp; try with_reducible rfl
    simp only [Act.put, List.setIfInBounds_toArray, List.set_cons_zero, List.set_cons_succ]
    refine wpAnyH_ready (rs := [3, 14]) (by kernel_rfl) (by simp) ?_
    refine AllReadyH.cons (o := ⟨some 135, _, _, _, _, _⟩) rfl (fun K hK => ?_) (AllReadyH.cons (o := ⟨some 146, _, _, _, _, _⟩) rfl (fun K hK => ?_) AllReadyH.nil)
    ·
      have OW := World.ownsRow_made (base := b0) (e := 3) (size := 1) WD #[] 0 (HS.out _ HB) (Nat.zero_le _) rfl
      replace H := H.alloc (.cells #[] 3)
      replace HB := HB.alloc (HS.out _ HB) (.cells #[] 3)
      go_simp
      refine hK.out _ _ (H.cell (bA) (oA + (r + 1 + 1)) (.int .i64 en) (by repeat (first | with_reducible exact List.mem_cons_self | with_reducible apply List.mem_cons_of_mem))) (fun hNew => ?_)
      clear hK K hHeld
      have hHeld := hNew
      clear hNew
      try simp only [Act.put, List.setIfInBounds_toArray, List.set_cons_zero, List.set_cons_succ]
      obtain ⟨T1, hT1⟩ : ∃ T, WD.heap.size = T := ⟨_, rfl⟩
      obtain ⟨U1, hU1⟩ : ∃ U, WD.alloc (.cells #[] 3) = U := ⟨_, rfl⟩
      rw [hU1] at H HB hHeld ⊢
      (try rw [hT1])
      rw [hU1] at OW
      (try rw [hT1] at OW)
      clear hT1 hU1
      refine wpAnyH_ready (rs := [8, 14]) (by kernel_rfl) (by simp) ?_
      refine AllReadyH.cons (o := ⟨some 140, _, _, _, _, _⟩) rfl (fun K hK => ?_) (AllReadyH.cons (o := ⟨some 146, _, _, _, _, _⟩) rfl (fun K hK => ?_) AllReadyH.nil)
      ·
        obtain ⟨v2, U2, hr, ho, hg⟩ := app13 b0 27 27 3 i0 (.int .i64 0) 1 8 Tryz.underlying27 hi hz0 hz1 hz2 rfl (by decide) _ _ _ OW (some ⟨bA, oA, none⟩) (r + 1) cA (il (dl Y (r + 1))) (row_days (((H.days (ao := some ⟨bA, oA, none⟩) (X := Y) (n := ((r + 1) + 1 + 1)) (cap := cA) (by repeat (first | with_reducible exact List.mem_cons_self | with_reducible apply List.mem_cons_of_mem)))).take (k := r + 1) (by omega))) (by omega) (by decide) (HS.out _ HB)
        have HB2 := HB.trans (grown_own (HS.out _ HB) OW hg)
        rw [Nat.zero_add, List.nil_append] at ho
        have H2 := HWD.out.below (HU.out _ HB2)
        clear H HB
        have H := H2
        have HB := HB2
        clear H2 HB2 OW
        have OW := ho
        clear ho hg
        (try rw [if_pos (by rfl)])
        refine Lib.wp_append_run _ (.tmp 135) (.tmp 139) 27 27 rfl _ _ rfl rfl _ _ hr ?_
        clear hr
        refine hK.out _ _ (H.cell (bA) (oA + (r + 1 + 1)) (.int .i64 en) (by repeat (first | with_reducible exact List.mem_cons_self | with_reducible apply List.mem_cons_of_mem))) (fun hNew => ?_)
        clear hK K hHeld
        have hHeld := hNew
        clear hNew
        try simp only [Act.put, List.setIfInBounds_toArray, List.set_cons_zero, List.set_cons_succ]
        refine wpAnyH_ready (rs := [14]) (by kernel_rfl) (by simp) ?_
        refine AllReadyH.cons (o := ⟨some 146, _, _, _, _, _⟩) rfl (fun K hK => ?_) AllReadyH.nil
        have RT := row_one U2 (en)
        replace OW := OW.alloc (.cells #[.int .i64 (en)] 3)
        replace H := H.alloc (.cells #[.int .i64 (en)] 3)
        replace HB := HB.alloc (HS.out _ HB) (.cells #[.int .i64 (en)] 3)
        go_simp
        refine hK.out _ _ (H.cell (bA) (oA + (r + 1 + 1)) (.int .i64 en) (by repeat (first | with_reducible exact List.mem_cons_self | with_reducible apply List.mem_cons_of_mem))) (fun hNew => ?_)
        clear hK K hHeld
        have hHeld := hNew
        clear hNew
        try simp only [Act.put, List.setIfInBounds_toArray, List.set_cons_zero, List.set_cons_succ]
        obtain ⟨T3, hT3⟩ : ∃ T, U2.heap.size = T := ⟨_, rfl⟩
        obtain ⟨U3, hU3⟩ : ∃ U, U2.alloc (.cells #[.int .i64 (en)] 3) = U := ⟨_, rfl⟩
        rw [hU3] at H HB hHeld ⊢
        (try rw [hT3])
        rw [hU3] at OW
        rw [hU3] at RT
        (try rw [hT3] at RT)
        clear hT3 hU3
        refine wpAnyH_ready (rs := [15]) (by kernel_rfl) (by simp) ?_
        refine AllReadyH.cons (o := ⟨some 147, _, _, _, _, _⟩) rfl (fun K hK => ?_) AllReadyH.nil
        obtain ⟨v4, U4, hr, ho, hg⟩ := app13 b0 27 27 3 i0 (.int .i64 0) 1 8 Tryz.underlying27 hi hz0 hz1 hz2 rfl (by decide) _ _ _ OW (some ⟨T3, 0, none⟩) 1 1 (il [en]) RT (by omega) (by decide) (HS.out _ HB)
        have HB2 := HB.trans (grown_own (HS.out _ HB) OW hg)
        rw [il_app] at ho
        obtain ⟨aN, cN, rfl, hN⟩ := own_days13 (n := r + 1 + 1) (l := (dl Y (r + 1) ++ [en])) (by simp [dl]) ho
        have HN := Lib.hid hN
        clear hN
        have H2 := HWD.out.below (HU.out _ HB2)
        clear H HB
        have H := H2
        have HB := HB2
        clear H2 HB2 OW
        have OW := ho
        clear ho hg
        (try rw [if_pos (by rfl)])
        refine Lib.wp_append_run _ (.tmp 140) (.tmp 146) 27 27 rfl _ _ rfl rfl _ _ hr ?_
        clear hr
        refine hK.out _ _ (H.cell (bA) (oA + (r + 1 + 1)) (.int .i64 en) (by repeat (first | with_reducible exact List.mem_cons_self | with_reducible apply List.mem_cons_of_mem))) (fun hNew => ?_)
        clear hK K hHeld
        have hHeld := hNew
        clear hNew
        try simp only [Act.put, List.setIfInBounds_toArray, List.set_cons_zero, List.set_cons_succ]
        clear RT
        refine wpAnyH_ready (rs := [16]) (by kernel_rfl) (by simp) ?_
        refine AllReadyH.cons (o := ⟨some 148, _, _, _, _, _⟩) rfl (fun K hK => ?_) AllReadyH.nil
        go_simp
        (with_reducible refine (rrow_yes aB (r + 1 + 1) cB Z aN cN (ld (dl Y (r + 1) ++ [en])) _ (by omega) (H.days (ao := aB) (X := Z) (n := (r + 1 + 1)) (cap := cB) (by repeat (first | with_reducible exact List.mem_cons_self | with_reducible apply List.mem_cons_of_mem))) HN.out (fun i hi => ZY.out i hi)).mono ?_)
        rintro e U5 ⟨rfl, hb⟩
        replace H := H.below hb
        replace HB := HB.trans (hb.mono (HS.out _ HB))
        (try replace OW := own_below13 OW hb)
        clear hb
        go_wp2_with fail
        refine hK.out _ _ (H.cell (bA) (oA + (r + 1 + 1)) (.int .i64 en) (by repeat (first | with_reducible exact List.mem_cons_self | with_reducible apply List.mem_cons_of_mem))) (fun hNew => ?_)
        clear hK K hHeld
        have hHeld := hNew
        clear hNew
        try simp only [Act.put, List.setIfInBounds_toArray, List.set_cons_zero, List.set_cons_succ]
        refine wpAnyH_take (i := 17) (oi := ⟨some 149, _, _, _, _, _⟩) (v := ?_) rfl (by kernel_rfl) (by kernel_rfl) (by kernel_rfl) (fun _ _ _ h => h) (Or.inl ⟨by rfl, ?_⟩) (by assumption) ?_
        rotate_left
        · intro w hSw; (try dsimp only at hSw); go_simp; try with_reducible rfl
        simp only [Act.put, List.setIfInBounds_toArray, List.set_cons_zero, List.set_cons_succ]
        refine wpAnyH_take (i := 18) (oi := ⟨some 2, _, _, _, _, _⟩) (v := ?_) rfl (by kernel_rfl) (by kernel_rfl) (by kernel_rfl) (fun _ _ _ h => h) (Or.inl ⟨by rfl, ?_⟩) (by assumption) ?_
        rotate_left
        · intro w hSw; (try dsimp only at hSw); go_simp; try with_reducible rfl
        simp only [Act.put, List.setIfInBounds_toArray, List.set_cons_zero, List.set_cons_succ]
        refine wpAnyH_done (by kernel_rfl) ?_ _
        clear hHeld
        go_wp2
        go_ret
        exact ⟨rfl, H.old⟩
      ·
        have nT := (World.ownsRow.lt OW T1 rfl).2
        have RT := row_one U1 (en)
        replace OW := OW.alloc (.cells #[.int .i64 (en)] 3)
        replace H := H.alloc (.cells #[.int .i64 (en)] 3)
        replace HB := HB.alloc (HS.out _ HB) (.cells #[.int .i64 (en)] 3)
        go_simp
        refine hK.out _ _ (H.cell (bA) (oA + (r + 1 + 1)) (.int .i64 en) (by repeat (first | with_reducible exact List.mem_cons_self | with_reducible apply List.mem_cons_of_mem))) (fun hNew => ?_)
        clear hK K hHeld
        have hHeld := hNew
        clear hNew
        try simp only [Act.put, List.setIfInBounds_toArray, List.set_cons_zero, List.set_cons_succ]
        obtain ⟨T6, hT6⟩ : ∃ T, U1.heap.size = T := ⟨_, rfl⟩
        obtain ⟨U6, hU6⟩ : ∃ U, U1.alloc (.cells #[.int .i64 (en)] 3) = U := ⟨_, rfl⟩
        rw [hU6] at H HB hHeld ⊢
        (try rw [hT6])
        rw [hU6] at OW
        rw [hU6] at RT
        (try rw [hT6] at RT)
        rw [hT6] at nT
        replace nT := Nat.ne_of_gt nT
        clear hT6 hU6
        refine wpAnyH_ready (rs := [8]) (by kernel_rfl) (by simp) ?_
        refine AllReadyH.cons (o := ⟨some 140, _, _, _, _, _⟩) rfl (fun K hK => ?_) AllReadyH.nil
        obtain ⟨v7, U7, hr, ho, hg⟩ := app13 b0 27 27 3 i0 (.int .i64 0) 1 8 Tryz.underlying27 hi hz0 hz1 hz2 rfl (by decide) _ _ _ OW (some ⟨bA, oA, none⟩) (r + 1) cA (il (dl Y (r + 1))) (row_days (((H.days (ao := some ⟨bA, oA, none⟩) (X := Y) (n := ((r + 1) + 1 + 1)) (cap := cA) (by repeat (first | with_reducible exact List.mem_cons_self | with_reducible apply List.mem_cons_of_mem)))).take (k := r + 1) (by omega))) (by omega) (by decide) (HS.out _ HB)
        have HB2 := HB.trans (grown_own (HS.out _ HB) OW hg)
        replace RT := RT.grown hg (fun e => nT (Option.some.inj e))
        rw [Nat.zero_add, List.nil_append] at ho
        have H2 := HWD.out.below (HU.out _ HB2)
        clear H HB
        have H := H2
        have HB := HB2
        clear H2 HB2 OW
        have OW := ho
        clear ho hg
        (try rw [if_pos (by rfl)])
        refine Lib.wp_append_run _ (.tmp 135) (.tmp 139) 27 27 rfl _ _ rfl rfl _ _ hr ?_
        clear hr
        refine hK.out _ _ (H.cell (bA) (oA + (r + 1 + 1)) (.int .i64 en) (by repeat (first | with_reducible exact List.mem_cons_self | with_reducible apply List.mem_cons_of_mem))) (fun hNew => ?_)
        clear hK K hHeld
        have hHeld := hNew
        clear hNew
        try simp only [Act.put, List.setIfInBounds_toArray, List.set_cons_zero, List.set_cons_succ]
        refine wpAnyH_ready (rs := [15]) (by kernel_rfl) (by simp) ?_
        refine AllReadyH.cons (o := ⟨some 147, _, _, _, _, _⟩) rfl (fun K hK => ?_) AllReadyH.nil
        obtain ⟨v8, U8, hr, ho, hg⟩ := app13 b0 27 27 3 i0 (.int .i64 0) 1 8 Tryz.underlying27 hi hz0 hz1 hz2 rfl (by decide) _ _ _ OW (some ⟨T6, 0, none⟩) 1 1 (il [en]) RT (by omega) (by decide) (HS.out _ HB)
        have HB2 := HB.trans (grown_own (HS.out _ HB) OW hg)
        rw [il_app] at ho
        obtain ⟨aN, cN, rfl, hN⟩ := own_days13 (n := r + 1 + 1) (l := (dl Y (r + 1) ++ [en])) (by simp [dl]) ho
        have HN := Lib.hid hN
        clear hN
        have H2 := HWD.out.below (HU.out _ HB2)
        clear H HB
        have H := H2
        have HB := HB2
        clear H2 HB2 OW
        have OW := ho
        clear ho hg
        (try rw [if_pos (by rfl)])
        refine Lib.wp_append_run _ (.tmp 140) (.tmp 146) 27 27 rfl _ _ rfl rfl _ _ hr ?_
        clear hr
        refine hK.out _ _ (H.cell (bA) (oA + (r + 1 + 1)) (.int .i64 en) (by repeat (first | with_reducible exact List.mem_cons_self | with_reducible apply List.mem_cons_of_mem))) (fun hNew => ?_)
        clear hK K hHeld
        have hHeld := hNew
        clear hNew
        try simp only [Act.put, List.setIfInBounds_toArray, List.set_cons_zero, List.set_cons_succ]
        clear RT
        refine wpAnyH_ready (rs := [16]) (by kernel_rfl) (by simp) ?_
        refine AllReadyH.cons (o := ⟨some 148, _, _, _, _, _⟩) rfl (fun K hK => ?_) AllReadyH.nil
        go_simp
        (with_reducible refine (rrow_yes aB (r + 1 + 1) cB Z aN cN (ld (dl Y (r + 1) ++ [en])) _ (by omega) (H.days (ao := aB) (X := Z) (n := (r + 1 + 1)) (cap := cB) (by repeat (first | with_reducible exact List.mem_cons_self | with_reducible apply List.mem_cons_of_mem))) HN.out (fun i hi => ZY.out i hi)).mono ?_)
        rintro e U9 ⟨rfl, hb⟩
        replace H := H.below hb
        replace HB := HB.trans (hb.mono (HS.out _ HB))
        (try replace OW := own_below13 OW hb)
        clear hb
        go_wp2_with fail
        refine hK.out _ _ (H.cell (bA) (oA + (r + 1 + 1)) (.int .i64 en) (by repeat (first | with_reducible exact List.mem_cons_self | with_reducible apply List.mem_cons_of_mem))) (fun hNew => ?_)
        clear hK K hHeld
        have hHeld := hNew
        clear hNew
        try simp only [Act.put, List.setIfInBounds_toArray, List.set_cons_zero, List.set_cons_succ]
        refine wpAnyH_take (i := 17) (oi := ⟨some 149, _, _, _, _, _⟩) (v := ?_) rfl (by kernel_rfl) (by kernel_rfl) (by kernel_rfl) (fun _ _ _ h => h) (Or.inl ⟨by rfl, ?_⟩) (by assumption) ?_
        rotate_left
        · intro w hSw; (try dsimp only at hSw); go_simp; try with_reducible rfl
        simp only [Act.put, List.setIfInBounds_toArray, List.set_cons_zero, List.set_cons_succ]
        refine wpAnyH_take (i := 18) (oi := ⟨some 2, _, _, _, _, _⟩) (v := ?_) rfl (by kernel_rfl) (by kernel_rfl) (by kernel_rfl) (fun _ _ _ h => h) (Or.inl ⟨by rfl, ?_⟩) (by assumption) ?_
        rotate_left
        · intro w hSw; (try dsimp only at hSw); go_simp; try with_reducible rfl
        simp only [Act.put, List.setIfInBounds_toArray, List.set_cons_zero, List.set_cons_succ]
        refine wpAnyH_done (by kernel_rfl) ?_ _
        clear hHeld
        go_wp2
        go_ret
        exact ⟨rfl, H.old⟩
    ·
      have RT := row_one WD (en)
      replace H := H.alloc (.cells #[.int .i64 (en)] 3)
      replace HB := HB.alloc (HS.out _ HB) (.cells #[.int .i64 (en)] 3)
      go_simp
      refine hK.out _ _ (H.cell (bA) (oA + (r + 1 + 1)) (.int .i64 en) (by repeat (first | with_reducible exact List.mem_cons_self | with_reducible apply List.mem_cons_of_mem))) (fun hNew => ?_)
      clear hK K hHeld
      have hHeld := hNew
      clear hNew
      try simp only [Act.put, List.setIfInBounds_toArray, List.set_cons_zero, List.set_cons_succ]
      obtain ⟨T10, hT10⟩ : ∃ T, WD.heap.size = T := ⟨_, rfl⟩
      obtain ⟨U10, hU10⟩ : ∃ U, WD.alloc (.cells #[.int .i64 (en)] 3) = U := ⟨_, rfl⟩
      rw [hU10] at H HB hHeld ⊢
      (try rw [hT10])
      rw [hU10] at RT
      (try rw [hT10] at RT)
      clear hT10 hU10
      refine wpAnyH_ready (rs := [3]) (by kernel_rfl) (by simp) ?_
      refine AllReadyH.cons (o := ⟨some 135, _, _, _, _, _⟩) rfl (fun K hK => ?_) AllReadyH.nil
      have nT := RT.lt16
      have OW := World.ownsRow_made (base := b0) (e := 3) (size := 1) U10 #[] 0 (HS.out _ HB) (Nat.zero_le _) rfl
      replace RT := RT.alloc (.cells #[] 3)
      replace H := H.alloc (.cells #[] 3)
      replace HB := HB.alloc (HS.out _ HB) (.cells #[] 3)
      go_simp
      refine hK.out _ _ (H.cell (bA) (oA + (r + 1 + 1)) (.int .i64 en) (by repeat (first | with_reducible exact List.mem_cons_self | with_reducible apply List.mem_cons_of_mem))) (fun hNew => ?_)
      clear hK K hHeld
      have hHeld := hNew
      clear hNew
      try simp only [Act.put, List.setIfInBounds_toArray, List.set_cons_zero, List.set_cons_succ]
      obtain ⟨T11, hT11⟩ : ∃ T, U10.heap.size = T := ⟨_, rfl⟩
      obtain ⟨U11, hU11⟩ : ∃ U, U10.alloc (.cells #[] 3) = U := ⟨_, rfl⟩
      rw [hU11] at H HB hHeld ⊢
      (try rw [hT11])
      rw [hU11] at OW
      rw [hU11] at RT
      (try rw [hT11] at OW)
      rw [hT11] at nT
      replace nT := Nat.ne_of_lt nT
      clear hT11 hU11
      refine wpAnyH_ready (rs := [8]) (by kernel_rfl) (by simp) ?_
      refine AllReadyH.cons (o := ⟨some 140, _, _, _, _, _⟩) rfl (fun K hK => ?_) AllReadyH.nil
      obtain ⟨v12, U12, hr, ho, hg⟩ := app13 b0 27 27 3 i0 (.int .i64 0) 1 8 Tryz.underlying27 hi hz0 hz1 hz2 rfl (by decide) _ _ _ OW (some ⟨bA, oA, none⟩) (r + 1) cA (il (dl Y (r + 1))) (row_days (((H.days (ao := some ⟨bA, oA, none⟩) (X := Y) (n := ((r + 1) + 1 + 1)) (cap := cA) (by repeat (first | with_reducible exact List.mem_cons_self | with_reducible apply List.mem_cons_of_mem)))).take (k := r + 1) (by omega))) (by omega) (by decide) (HS.out _ HB)
      have HB2 := HB.trans (grown_own (HS.out _ HB) OW hg)
      replace RT := RT.grown hg (fun e => nT (Option.some.inj e))
      rw [Nat.zero_add, List.nil_append] at ho
      have H2 := HWD.out.below (HU.out _ HB2)
      clear H HB
      have H := H2
      have HB := HB2
      clear H2 HB2 OW
      have OW := ho
      clear ho hg
      (try rw [if_pos (by rfl)])
      refine Lib.wp_append_run _ (.tmp 135) (.tmp 139) 27 27 rfl _ _ rfl rfl _ _ hr ?_
      clear hr
      refine hK.out _ _ (H.cell (bA) (oA + (r + 1 + 1)) (.int .i64 en) (by repeat (first | with_reducible exact List.mem_cons_self | with_reducible apply List.mem_cons_of_mem))) (fun hNew => ?_)
      clear hK K hHeld
      have hHeld := hNew
      clear hNew
      try simp only [Act.put, List.setIfInBounds_toArray, List.set_cons_zero, List.set_cons_succ]
      refine wpAnyH_ready (rs := [15]) (by kernel_rfl) (by simp) ?_
      refine AllReadyH.cons (o := ⟨some 147, _, _, _, _, _⟩) rfl (fun K hK => ?_) AllReadyH.nil
      obtain ⟨v13, U13, hr, ho, hg⟩ := app13 b0 27 27 3 i0 (.int .i64 0) 1 8 Tryz.underlying27 hi hz0 hz1 hz2 rfl (by decide) _ _ _ OW (some ⟨T10, 0, none⟩) 1 1 (il [en]) RT (by omega) (by decide) (HS.out _ HB)
      have HB2 := HB.trans (grown_own (HS.out _ HB) OW hg)
      rw [il_app] at ho
      obtain ⟨aN, cN, rfl, hN⟩ := own_days13 (n := r + 1 + 1) (l := (dl Y (r + 1) ++ [en])) (by simp [dl]) ho
      have HN := Lib.hid hN
      clear hN
      have H2 := HWD.out.below (HU.out _ HB2)
      clear H HB
      have H := H2
      have HB := HB2
      clear H2 HB2 OW
      have OW := ho
      clear ho hg
      (try rw [if_pos (by rfl)])
      refine Lib.wp_append_run _ (.tmp 140) (.tmp 146) 27 27 rfl _ _ rfl rfl _ _ hr ?_
      clear hr
      refine hK.out _ _ (H.cell (bA) (oA + (r + 1 + 1)) (.int .i64 en) (by repeat (first | with_reducible exact List.mem_cons_self | with_reducible apply List.mem_cons_of_mem))) (fun hNew => ?_)
      clear hK K hHeld
      have hHeld := hNew
      clear hNew
      try simp only [Act.put, List.setIfInBounds_toArray, List.set_cons_zero, List.set_cons_succ]
      clear RT
      refine wpAnyH_ready (rs := [16]) (by kernel_rfl) (by simp) ?_
      refine AllReadyH.cons (o := ⟨some 148, _, _, _, _, _⟩) rfl (fun K hK => ?_) AllReadyH.nil
      go_simp
      (with_reducible refine (rrow_yes aB (r + 1 + 1) cB Z aN cN (ld (dl Y (r + 1) ++ [en])) _ (by omega) (H.days (ao := aB) (X := Z) (n := (r + 1 + 1)) (cap := cB) (by repeat (first | with_reducible exact List.mem_cons_self | with_reducible apply List.mem_cons_of_mem))) HN.out (fun i hi => ZY.out i hi)).mono ?_)
      rintro e U14 ⟨rfl, hb⟩
      replace H := H.below hb
      replace HB := HB.trans (hb.mono (HS.out _ HB))
      (try replace OW := own_below13 OW hb)
      clear hb
      go_wp2_with fail
      refine hK.out _ _ (H.cell (bA) (oA + (r + 1 + 1)) (.int .i64 en) (by repeat (first | with_reducible exact List.mem_cons_self | with_reducible apply List.mem_cons_of_mem))) (fun hNew => ?_)
      clear hK K hHeld
      have hHeld := hNew
      clear hNew
      try simp only [Act.put, List.setIfInBounds_toArray, List.set_cons_zero, List.set_cons_succ]
      refine wpAnyH_take (i := 17) (oi := ⟨some 149, _, _, _, _, _⟩) (v := ?_) rfl (by kernel_rfl) (by kernel_rfl) (by kernel_rfl) (fun _ _ _ h => h) (Or.inl ⟨by rfl, ?_⟩) (by assumption) ?_
      rotate_left
      · intro w hSw; (try dsimp only at hSw); go_simp; try with_reducible rfl
      simp only [Act.put, List.setIfInBounds_toArray, List.set_cons_zero, List.set_cons_succ]
      refine wpAnyH_take (i := 18) (oi := ⟨some 2, _, _, _, _, _⟩) (v := ?_) rfl (by kernel_rfl) (by kernel_rfl) (by kernel_rfl) (fun _ _ _ h => h) (Or.inl ⟨by rfl, ?_⟩) (by assumption) ?_
      rotate_left
      · intro w hSw; (try dsimp only at hSw); go_simp; try with_reducible rfl
      simp only [Act.put, List.setIfInBounds_toArray, List.set_cons_zero, List.set_cons_succ]
      refine wpAnyH_done (by kernel_rfl) ?_ _
      clear hHeld
      go_wp2
      go_ret
      exact ⟨rfl, H.old⟩
set_option maxHeartbeats 16000000 in
set_option maxRecDepth 100000 in
theorem dstub_true_A (mo ra ki co st en ms : Int) (lg eo : Bool) (ro : Int) (p : Nat) (X E : Nat → Int) (w : World) (hL : FactsT w) (hc : (Tm.mk mo ra ki co st en ms true lg eo ro).code = 0) (hs : en - st ≤ 6200) (hWk : (Tm.mk mo ra ki co st en ms true lg eo ro).Walk X E (p + 1)) (hw : E (p + 1) = 0 ∧ X (p + 1) = st) : Calls Tryz.prog 5 #[.agg #[.int .i64 mo, .int .i64 ra, .int .i64 ki, .int .i64 co, .int .i64 st, .int .i64 en, .int .i64 ms, .bool true, .bool lg, .bool eo, .int .i64 ro]] w fun e w' => e = .returned (.bool true) ∧ Below w.heap.size w w' := by
  have H := (Held.start w).add (f := factsTF) hL
  have CK := Lib.hid (fun v => rcheck15 mo ra ki co st en ms true lg eo ro 0 v hc)
  obtain ⟨hf, hd, ho, -, -⟩ := Tm.of_zero hc
  have mb : 1 ≤ ms ∧ ms ≤ 12 := mo_bd hf.2.2.2
  have SHT := Lib.hid (fun v => short_any mo ra ki co st en ms true lg eo ro 200 true v hd.1 hd.2 ho (by omega) (decide_eq_true (by omega)))
  have top := hWk.top
  have W0k : (Tm.mk mo ra ki co st en ms true false eo ro).Walk X E (p + 1) := hWk.long rfl rfl rfl rfl rfl
  have W1k : (Tm.mk mo ra ki co st en ms true true eo ro).Walk X E (p + 1) := hWk.long rfl rfl rfl rfl rfl
  have OS := Lib.hid (fun v h => of_dd mo ra ki co st en ms true false eo ro X E (p + 1) p v h hc ho (by omega) W0k (by unfold Tm.q; rw [if_neg (fun g => by cases g.1)]; (try rfl)))
  have OL := Lib.hid (fun v h => of_dd mo ra ki co st en ms true true eo ro X E (p + 1) p v h hc ho (by omega) W1k (by unfold Tm.q; rw [if_neg (fun g => g.2.2 hw)]; (try rfl)))
  obtain ⟨Y, hY⟩ : ∃ Y, (Tm.mk mo ra ki co st en ms true false eo ro).dd X p = Y := ⟨_, rfl⟩
  obtain ⟨Z, hZ⟩ : ∃ Z, (Tm.mk mo ra ki co st en ms true true eo ro).dd X p = Z := ⟨_, rfl⟩
  have MV := Lib.hid (fun (z : Int) (v : World) (hp : ((p : Int) + 1) * -ms = z) => rmove_any en z (X (p + 1)) (E (p + 1)) eo v (by
    have := hWk.mv (p + 1)
    rw [show (((p + 1) : Nat) : Int) * (Tm.mk mo ra ki co st en ms true lg eo ro).ap = z by rw [← hp]; rfl] at this
    exact this))
  have YZ : Hid (∀ i, Y i = Z i) := Lib.hid (fun i => by rw [← hY, ← hZ]; rfl)
  have EC := Lib.hid (hWk.code (p + 1))
  have HW := Lib.hid hw
  obtain ⟨z, hz⟩ : ∃ z, ((p : Int) + 1) * -ms = z := ⟨_, rfl⟩
  have bz : -20000 ≤ z ∧ z ≤ 20000 := by
    have := mul_bd2 (k := ((p : Int) + 1)) (a := ms) (by omega) (by omega) mb.1 mb.2
    rw [← hz]
    rw [Int.mul_neg]
    omega
  have M1 := Lib.hid (fun v => MV.out z v hz)
  have HZZ := Lib.hid hz
  rw [hY] at OS
  rw [hZ] at OL
  clear hc hf hd ho hs hWk W0k W1k hY hZ hw hz MV
  clear hL
  go_enter Tryz.func5, Tryz.ntmps5
  go_wp2_with fail
  replace H := H.box_11 (w.heap.size) (.int .i64 mo) (.int .i64 ra) (.int .i64 ki) (.int .i64 co) (.int .i64 st) (.int .i64 en) (.int .i64 ms) (.bool true) (.bool lg) (.bool eo) (.int .i64 ro) 23 rfl
  (with_reducible refine (dshown_any _ (H.factsT (by repeat (first | with_reducible exact List.mem_cons_self | with_reducible apply List.mem_cons_of_mem)))).mono ?_)
  rintro e w1 ⟨rfl, hb⟩
  replace H := H.below hb
  clear hb
  have ct0 := H.cell (w.heap.size) 0 (.int .i64 mo) (by repeat (first | with_reducible exact List.mem_cons_self | with_reducible apply List.mem_cons_of_mem))
  have ct1 := H.cell (w.heap.size) 1 (.int .i64 ra) (by repeat (first | with_reducible exact List.mem_cons_self | with_reducible apply List.mem_cons_of_mem))
  have ct2 := H.cell (w.heap.size) 2 (.int .i64 ki) (by repeat (first | with_reducible exact List.mem_cons_self | with_reducible apply List.mem_cons_of_mem))
  have ct3 := H.cell (w.heap.size) 3 (.int .i64 co) (by repeat (first | with_reducible exact List.mem_cons_self | with_reducible apply List.mem_cons_of_mem))
  have ct4 := H.cell (w.heap.size) 4 (.int .i64 st) (by repeat (first | with_reducible exact List.mem_cons_self | with_reducible apply List.mem_cons_of_mem))
  have ct5 := H.cell (w.heap.size) 5 (.int .i64 en) (by repeat (first | with_reducible exact List.mem_cons_self | with_reducible apply List.mem_cons_of_mem))
  have ct6 := H.cell (w.heap.size) 6 (.int .i64 ms) (by repeat (first | with_reducible exact List.mem_cons_self | with_reducible apply List.mem_cons_of_mem))
  have ct7 := H.cell (w.heap.size) 7 (.bool true) (by repeat (first | with_reducible exact List.mem_cons_self | with_reducible apply List.mem_cons_of_mem))
  have ct8 := H.cell (w.heap.size) 8 (.bool lg) (by repeat (first | with_reducible exact List.mem_cons_self | with_reducible apply List.mem_cons_of_mem))
  have ct9 := H.cell (w.heap.size) 9 (.bool eo) (by repeat (first | with_reducible exact List.mem_cons_self | with_reducible apply List.mem_cons_of_mem))
  have ct10 := H.cell (w.heap.size) 10 (.int .i64 ro) (by repeat (first | with_reducible exact List.mem_cons_self | with_reducible apply List.mem_cons_of_mem))
  have lt := cell_lt ct0
  go_wp2_with fail
  clear ct0 ct1 ct2 ct3 ct4 ct5 ct6 ct7 ct8 ct9 ct10 lt
  (with_reducible refine (CK.out _).mono ?_)
  rintro e w2 ⟨rfl, hb⟩
  replace H := H.below hb
  clear hb
  have ct0 := H.cell (w.heap.size) 0 (.int .i64 mo) (by repeat (first | with_reducible exact List.mem_cons_self | with_reducible apply List.mem_cons_of_mem))
  have ct1 := H.cell (w.heap.size) 1 (.int .i64 ra) (by repeat (first | with_reducible exact List.mem_cons_self | with_reducible apply List.mem_cons_of_mem))
  have ct2 := H.cell (w.heap.size) 2 (.int .i64 ki) (by repeat (first | with_reducible exact List.mem_cons_self | with_reducible apply List.mem_cons_of_mem))
  have ct3 := H.cell (w.heap.size) 3 (.int .i64 co) (by repeat (first | with_reducible exact List.mem_cons_self | with_reducible apply List.mem_cons_of_mem))
  have ct4 := H.cell (w.heap.size) 4 (.int .i64 st) (by repeat (first | with_reducible exact List.mem_cons_self | with_reducible apply List.mem_cons_of_mem))
  have ct5 := H.cell (w.heap.size) 5 (.int .i64 en) (by repeat (first | with_reducible exact List.mem_cons_self | with_reducible apply List.mem_cons_of_mem))
  have ct6 := H.cell (w.heap.size) 6 (.int .i64 ms) (by repeat (first | with_reducible exact List.mem_cons_self | with_reducible apply List.mem_cons_of_mem))
  have ct7 := H.cell (w.heap.size) 7 (.bool true) (by repeat (first | with_reducible exact List.mem_cons_self | with_reducible apply List.mem_cons_of_mem))
  have ct8 := H.cell (w.heap.size) 8 (.bool lg) (by repeat (first | with_reducible exact List.mem_cons_self | with_reducible apply List.mem_cons_of_mem))
  have ct9 := H.cell (w.heap.size) 9 (.bool eo) (by repeat (first | with_reducible exact List.mem_cons_self | with_reducible apply List.mem_cons_of_mem))
  have ct10 := H.cell (w.heap.size) 10 (.int .i64 ro) (by repeat (first | with_reducible exact List.mem_cons_self | with_reducible apply List.mem_cons_of_mem))
  have lt := cell_lt ct0
  go_wp2_with fail
  clear ct0 ct1 ct2 ct3 ct4 ct5 ct6 ct7 ct8 ct9 ct10 lt
  (with_reducible refine (SHT.out _).mono ?_)
  rintro e w3 ⟨rfl, hb⟩
  replace H := H.below hb
  clear hb
  have ct0 := H.cell (w.heap.size) 0 (.int .i64 mo) (by repeat (first | with_reducible exact List.mem_cons_self | with_reducible apply List.mem_cons_of_mem))
  have ct1 := H.cell (w.heap.size) 1 (.int .i64 ra) (by repeat (first | with_reducible exact List.mem_cons_self | with_reducible apply List.mem_cons_of_mem))
  have ct2 := H.cell (w.heap.size) 2 (.int .i64 ki) (by repeat (first | with_reducible exact List.mem_cons_self | with_reducible apply List.mem_cons_of_mem))
  have ct3 := H.cell (w.heap.size) 3 (.int .i64 co) (by repeat (first | with_reducible exact List.mem_cons_self | with_reducible apply List.mem_cons_of_mem))
  have ct4 := H.cell (w.heap.size) 4 (.int .i64 st) (by repeat (first | with_reducible exact List.mem_cons_self | with_reducible apply List.mem_cons_of_mem))
  have ct5 := H.cell (w.heap.size) 5 (.int .i64 en) (by repeat (first | with_reducible exact List.mem_cons_self | with_reducible apply List.mem_cons_of_mem))
  have ct6 := H.cell (w.heap.size) 6 (.int .i64 ms) (by repeat (first | with_reducible exact List.mem_cons_self | with_reducible apply List.mem_cons_of_mem))
  have ct7 := H.cell (w.heap.size) 7 (.bool true) (by repeat (first | with_reducible exact List.mem_cons_self | with_reducible apply List.mem_cons_of_mem))
  have ct8 := H.cell (w.heap.size) 8 (.bool lg) (by repeat (first | with_reducible exact List.mem_cons_self | with_reducible apply List.mem_cons_of_mem))
  have ct9 := H.cell (w.heap.size) 9 (.bool eo) (by repeat (first | with_reducible exact List.mem_cons_self | with_reducible apply List.mem_cons_of_mem))
  have ct10 := H.cell (w.heap.size) 10 (.int .i64 ro) (by repeat (first | with_reducible exact List.mem_cons_self | with_reducible apply List.mem_cons_of_mem))
  have lt := cell_lt ct0
  go_wp2_with fail
  clear ct0 ct1 ct2 ct3 ct4 ct5 ct6 ct7 ct8 ct9 ct10 lt
  replace H := H.box_11 (w3.heap.size) (.int .i64 mo) (.int .i64 ra) (.int .i64 ki) (.int .i64 co) (.int .i64 st) (.int .i64 en) (.int .i64 ms) (.bool true) (.bool false) (.bool eo) (.int .i64 ro) 23 rfl
  replace H := H.box_11 (w3.heap.size + 1) (.int .i64 mo) (.int .i64 ra) (.int .i64 ki) (.int .i64 co) (.int .i64 st) (.int .i64 en) (.int .i64 ms) (.bool true) (.bool true) (.bool eo) (.int .i64 ro) 23 (by simp)
  (with_reducible refine (OS.out _ (H.factsT (by repeat (first | with_reducible exact List.mem_cons_self | with_reducible apply List.mem_cons_of_mem)))).mono ?_)
  rintro e w4 ⟨aA, cA, rfl, hd, hb⟩
  replace H := (H.below hb).add (f := daysF aA Y (p + 1 + 1) cA) hd
  clear hb hd
  have cl0 := H.cell (w3.heap.size + 1) 0 (.int .i64 mo) (by repeat (first | with_reducible exact List.mem_cons_self | with_reducible apply List.mem_cons_of_mem))
  have cl1 := H.cell (w3.heap.size + 1) 1 (.int .i64 ra) (by repeat (first | with_reducible exact List.mem_cons_self | with_reducible apply List.mem_cons_of_mem))
  have cl2 := H.cell (w3.heap.size + 1) 2 (.int .i64 ki) (by repeat (first | with_reducible exact List.mem_cons_self | with_reducible apply List.mem_cons_of_mem))
  have cl3 := H.cell (w3.heap.size + 1) 3 (.int .i64 co) (by repeat (first | with_reducible exact List.mem_cons_self | with_reducible apply List.mem_cons_of_mem))
  have cl4 := H.cell (w3.heap.size + 1) 4 (.int .i64 st) (by repeat (first | with_reducible exact List.mem_cons_self | with_reducible apply List.mem_cons_of_mem))
  have cl5 := H.cell (w3.heap.size + 1) 5 (.int .i64 en) (by repeat (first | with_reducible exact List.mem_cons_self | with_reducible apply List.mem_cons_of_mem))
  have cl6 := H.cell (w3.heap.size + 1) 6 (.int .i64 ms) (by repeat (first | with_reducible exact List.mem_cons_self | with_reducible apply List.mem_cons_of_mem))
  have cl7 := H.cell (w3.heap.size + 1) 7 (.bool true) (by repeat (first | with_reducible exact List.mem_cons_self | with_reducible apply List.mem_cons_of_mem))
  have cl8 := H.cell (w3.heap.size + 1) 8 (.bool true) (by repeat (first | with_reducible exact List.mem_cons_self | with_reducible apply List.mem_cons_of_mem))
  have cl9 := H.cell (w3.heap.size + 1) 9 (.bool eo) (by repeat (first | with_reducible exact List.mem_cons_self | with_reducible apply List.mem_cons_of_mem))
  have cl10 := H.cell (w3.heap.size + 1) 10 (.int .i64 ro) (by repeat (first | with_reducible exact List.mem_cons_self | with_reducible apply List.mem_cons_of_mem))
  have ll := cell_lt cl0
  go_wp2_with fail
  clear cl0 cl1 cl2 cl3 cl4 cl5 cl6 cl7 cl8 cl9 cl10 ll
  (with_reducible refine (OL.out _ (H.factsT (by repeat (first | with_reducible exact List.mem_cons_self | with_reducible apply List.mem_cons_of_mem)))).mono ?_)
  rintro e w5 ⟨aB, cB, rfl, hd, hb⟩
  replace H := (H.below hb).add (f := daysF aB Z (p + 1 + 1) cB) hd
  clear hb hd
  have hz := HZZ.out
  have tn : decide ((p : Int) + 1 + 1 < 2) = false := decide_eq_false (by omega)
  have ct0 := H.cell (w.heap.size) 0 (.int .i64 mo) (by repeat (first | with_reducible exact List.mem_cons_self | with_reducible apply List.mem_cons_of_mem))
  have ct1 := H.cell (w.heap.size) 1 (.int .i64 ra) (by repeat (first | with_reducible exact List.mem_cons_self | with_reducible apply List.mem_cons_of_mem))
  have ct2 := H.cell (w.heap.size) 2 (.int .i64 ki) (by repeat (first | with_reducible exact List.mem_cons_self | with_reducible apply List.mem_cons_of_mem))
  have ct3 := H.cell (w.heap.size) 3 (.int .i64 co) (by repeat (first | with_reducible exact List.mem_cons_self | with_reducible apply List.mem_cons_of_mem))
  have ct4 := H.cell (w.heap.size) 4 (.int .i64 st) (by repeat (first | with_reducible exact List.mem_cons_self | with_reducible apply List.mem_cons_of_mem))
  have ct5 := H.cell (w.heap.size) 5 (.int .i64 en) (by repeat (first | with_reducible exact List.mem_cons_self | with_reducible apply List.mem_cons_of_mem))
  have ct6 := H.cell (w.heap.size) 6 (.int .i64 ms) (by repeat (first | with_reducible exact List.mem_cons_self | with_reducible apply List.mem_cons_of_mem))
  have ct7 := H.cell (w.heap.size) 7 (.bool true) (by repeat (first | with_reducible exact List.mem_cons_self | with_reducible apply List.mem_cons_of_mem))
  have ct8 := H.cell (w.heap.size) 8 (.bool lg) (by repeat (first | with_reducible exact List.mem_cons_self | with_reducible apply List.mem_cons_of_mem))
  have ct9 := H.cell (w.heap.size) 9 (.bool eo) (by repeat (first | with_reducible exact List.mem_cons_self | with_reducible apply List.mem_cons_of_mem))
  have ct10 := H.cell (w.heap.size) 10 (.int .i64 ro) (by repeat (first | with_reducible exact List.mem_cons_self | with_reducible apply List.mem_cons_of_mem))
  have lt := cell_lt ct0
  go_wp2_with fail
  clear ct0 ct1 ct2 ct3 ct4 ct5 ct6 ct7 ct8 ct9 ct10 lt
  clear hz
  (with_reducible refine (M1.out _).mono ?_)
  rintro e w6 ⟨rfl, hb⟩
  replace H := H.below hb
  clear hb
  rw [HW.out.1, HW.out.2]
  go_wp2_with fail
  (with_reducible refine (rrow_yes aA (p + 1 + 1) cA Y aB cB Z _ (by omega) (H.days (ao := aA) (X := Y) (n := (p + 1 + 1)) (cap := cA) (by repeat (first | with_reducible exact List.mem_cons_self | with_reducible apply List.mem_cons_of_mem))) (H.days (ao := aB) (X := Z) (n := (p + 1 + 1)) (cap := cB) (by repeat (first | with_reducible exact List.mem_cons_self | with_reducible apply List.mem_cons_of_mem))) (fun i _ => YZ.out i)).mono ?_)
  rintro e w7 ⟨rfl, hb⟩
  replace H := H.below hb
  clear hb
  go_wp2
  go_ret
  exact ⟨rfl, H.old⟩
set_option maxHeartbeats 16000000 in
set_option maxRecDepth 100000 in
theorem dstub_true_B (mo ra ki co st en ms : Int) (lg eo : Bool) (ro : Int) (X E : Nat → Int) (w : World) (hL : FactsT w) (hc : (Tm.mk mo ra ki co st en ms true lg eo ro).code = 0) (hs : en - st ≤ 6200) (hWk : (Tm.mk mo ra ki co st en ms true lg eo ro).Walk X E 1) (hw : ¬ (E 1 = 0 ∧ X 1 = st)) : Calls Tryz.prog 5 #[.agg #[.int .i64 mo, .int .i64 ra, .int .i64 ki, .int .i64 co, .int .i64 st, .int .i64 en, .int .i64 ms, .bool true, .bool lg, .bool eo, .int .i64 ro]] w fun e w' => e = .returned (.bool true) ∧ Below w.heap.size w w' := by
  have H := (Held.start w).add (f := factsTF) hL
  have CK := Lib.hid (fun v => rcheck15 mo ra ki co st en ms true lg eo ro 0 v hc)
  obtain ⟨hf, hd, ho, -, -⟩ := Tm.of_zero hc
  have mb : 1 ≤ ms ∧ ms ≤ 12 := mo_bd hf.2.2.2
  have SHT := Lib.hid (fun v => short_any mo ra ki co st en ms true lg eo ro 200 true v hd.1 hd.2 ho (by omega) (decide_eq_true (by omega)))
  have top := hWk.top
  have W0k : (Tm.mk mo ra ki co st en ms true false eo ro).Walk X E 1 := hWk.long rfl rfl rfl rfl rfl
  have W1k : (Tm.mk mo ra ki co st en ms true true eo ro).Walk X E 1 := hWk.long rfl rfl rfl rfl rfl
  have OS := Lib.hid (fun v h => of_dd mo ra ki co st en ms true false eo ro X E 1 0 v h hc ho (by omega) W0k (by unfold Tm.q; rw [if_neg (fun g => by cases g.1)]; (try rfl)))
  have OL := Lib.hid (fun v h => of_dd mo ra ki co st en ms true true eo ro X E 1 0 v h hc ho (by omega) W1k (by unfold Tm.q; rw [if_neg (fun g => by omega)]; (try rfl)))
  obtain ⟨Y, hY⟩ : ∃ Y, (Tm.mk mo ra ki co st en ms true false eo ro).dd X 0 = Y := ⟨_, rfl⟩
  obtain ⟨Z, hZ⟩ : ∃ Z, (Tm.mk mo ra ki co st en ms true true eo ro).dd X 0 = Z := ⟨_, rfl⟩
  have MV := Lib.hid (fun (z : Int) (v : World) (hp : 1 * -ms = z) => rmove_any en z (X 1) (E 1) eo v (by
    have := hWk.mv 1
    rw [show ((1 : Nat) : Int) * (Tm.mk mo ra ki co st en ms true lg eo ro).ap = z by rw [← hp]; rfl] at this
    exact this))
  have YZ : Hid (∀ i, Y i = Z i) := Lib.hid (fun i => by rw [← hY, ← hZ]; rfl)
  have EC := Lib.hid (hWk.code 1)
  have HW := Lib.hid hw
  obtain ⟨z, hz⟩ : ∃ z, 1 * -ms = z := ⟨_, rfl⟩
  have bz : -20000 ≤ z ∧ z ≤ 20000 := by
    have := mul_bd2 (k := 1) (a := ms) (by omega) (by omega) mb.1 mb.2
    rw [← hz]
    rw [Int.mul_neg]
    omega
  have M1 := Lib.hid (fun v => MV.out z v hz)
  have HZZ := Lib.hid hz
  rw [hY] at OS
  rw [hZ] at OL
  clear hc hf hd ho hs hWk W0k W1k hY hZ hw hz MV
  clear hL
  go_enter Tryz.func5, Tryz.ntmps5
  go_wp2_with fail
  replace H := H.box_11 (w.heap.size) (.int .i64 mo) (.int .i64 ra) (.int .i64 ki) (.int .i64 co) (.int .i64 st) (.int .i64 en) (.int .i64 ms) (.bool true) (.bool lg) (.bool eo) (.int .i64 ro) 23 rfl
  (with_reducible refine (dshown_any _ (H.factsT (by repeat (first | with_reducible exact List.mem_cons_self | with_reducible apply List.mem_cons_of_mem)))).mono ?_)
  rintro e w1 ⟨rfl, hb⟩
  replace H := H.below hb
  clear hb
  have ct0 := H.cell (w.heap.size) 0 (.int .i64 mo) (by repeat (first | with_reducible exact List.mem_cons_self | with_reducible apply List.mem_cons_of_mem))
  have ct1 := H.cell (w.heap.size) 1 (.int .i64 ra) (by repeat (first | with_reducible exact List.mem_cons_self | with_reducible apply List.mem_cons_of_mem))
  have ct2 := H.cell (w.heap.size) 2 (.int .i64 ki) (by repeat (first | with_reducible exact List.mem_cons_self | with_reducible apply List.mem_cons_of_mem))
  have ct3 := H.cell (w.heap.size) 3 (.int .i64 co) (by repeat (first | with_reducible exact List.mem_cons_self | with_reducible apply List.mem_cons_of_mem))
  have ct4 := H.cell (w.heap.size) 4 (.int .i64 st) (by repeat (first | with_reducible exact List.mem_cons_self | with_reducible apply List.mem_cons_of_mem))
  have ct5 := H.cell (w.heap.size) 5 (.int .i64 en) (by repeat (first | with_reducible exact List.mem_cons_self | with_reducible apply List.mem_cons_of_mem))
  have ct6 := H.cell (w.heap.size) 6 (.int .i64 ms) (by repeat (first | with_reducible exact List.mem_cons_self | with_reducible apply List.mem_cons_of_mem))
  have ct7 := H.cell (w.heap.size) 7 (.bool true) (by repeat (first | with_reducible exact List.mem_cons_self | with_reducible apply List.mem_cons_of_mem))
  have ct8 := H.cell (w.heap.size) 8 (.bool lg) (by repeat (first | with_reducible exact List.mem_cons_self | with_reducible apply List.mem_cons_of_mem))
  have ct9 := H.cell (w.heap.size) 9 (.bool eo) (by repeat (first | with_reducible exact List.mem_cons_self | with_reducible apply List.mem_cons_of_mem))
  have ct10 := H.cell (w.heap.size) 10 (.int .i64 ro) (by repeat (first | with_reducible exact List.mem_cons_self | with_reducible apply List.mem_cons_of_mem))
  have lt := cell_lt ct0
  go_wp2_with fail
  clear ct0 ct1 ct2 ct3 ct4 ct5 ct6 ct7 ct8 ct9 ct10 lt
  (with_reducible refine (CK.out _).mono ?_)
  rintro e w2 ⟨rfl, hb⟩
  replace H := H.below hb
  clear hb
  have ct0 := H.cell (w.heap.size) 0 (.int .i64 mo) (by repeat (first | with_reducible exact List.mem_cons_self | with_reducible apply List.mem_cons_of_mem))
  have ct1 := H.cell (w.heap.size) 1 (.int .i64 ra) (by repeat (first | with_reducible exact List.mem_cons_self | with_reducible apply List.mem_cons_of_mem))
  have ct2 := H.cell (w.heap.size) 2 (.int .i64 ki) (by repeat (first | with_reducible exact List.mem_cons_self | with_reducible apply List.mem_cons_of_mem))
  have ct3 := H.cell (w.heap.size) 3 (.int .i64 co) (by repeat (first | with_reducible exact List.mem_cons_self | with_reducible apply List.mem_cons_of_mem))
  have ct4 := H.cell (w.heap.size) 4 (.int .i64 st) (by repeat (first | with_reducible exact List.mem_cons_self | with_reducible apply List.mem_cons_of_mem))
  have ct5 := H.cell (w.heap.size) 5 (.int .i64 en) (by repeat (first | with_reducible exact List.mem_cons_self | with_reducible apply List.mem_cons_of_mem))
  have ct6 := H.cell (w.heap.size) 6 (.int .i64 ms) (by repeat (first | with_reducible exact List.mem_cons_self | with_reducible apply List.mem_cons_of_mem))
  have ct7 := H.cell (w.heap.size) 7 (.bool true) (by repeat (first | with_reducible exact List.mem_cons_self | with_reducible apply List.mem_cons_of_mem))
  have ct8 := H.cell (w.heap.size) 8 (.bool lg) (by repeat (first | with_reducible exact List.mem_cons_self | with_reducible apply List.mem_cons_of_mem))
  have ct9 := H.cell (w.heap.size) 9 (.bool eo) (by repeat (first | with_reducible exact List.mem_cons_self | with_reducible apply List.mem_cons_of_mem))
  have ct10 := H.cell (w.heap.size) 10 (.int .i64 ro) (by repeat (first | with_reducible exact List.mem_cons_self | with_reducible apply List.mem_cons_of_mem))
  have lt := cell_lt ct0
  go_wp2_with fail
  clear ct0 ct1 ct2 ct3 ct4 ct5 ct6 ct7 ct8 ct9 ct10 lt
  (with_reducible refine (SHT.out _).mono ?_)
  rintro e w3 ⟨rfl, hb⟩
  replace H := H.below hb
  clear hb
  have ct0 := H.cell (w.heap.size) 0 (.int .i64 mo) (by repeat (first | with_reducible exact List.mem_cons_self | with_reducible apply List.mem_cons_of_mem))
  have ct1 := H.cell (w.heap.size) 1 (.int .i64 ra) (by repeat (first | with_reducible exact List.mem_cons_self | with_reducible apply List.mem_cons_of_mem))
  have ct2 := H.cell (w.heap.size) 2 (.int .i64 ki) (by repeat (first | with_reducible exact List.mem_cons_self | with_reducible apply List.mem_cons_of_mem))
  have ct3 := H.cell (w.heap.size) 3 (.int .i64 co) (by repeat (first | with_reducible exact List.mem_cons_self | with_reducible apply List.mem_cons_of_mem))
  have ct4 := H.cell (w.heap.size) 4 (.int .i64 st) (by repeat (first | with_reducible exact List.mem_cons_self | with_reducible apply List.mem_cons_of_mem))
  have ct5 := H.cell (w.heap.size) 5 (.int .i64 en) (by repeat (first | with_reducible exact List.mem_cons_self | with_reducible apply List.mem_cons_of_mem))
  have ct6 := H.cell (w.heap.size) 6 (.int .i64 ms) (by repeat (first | with_reducible exact List.mem_cons_self | with_reducible apply List.mem_cons_of_mem))
  have ct7 := H.cell (w.heap.size) 7 (.bool true) (by repeat (first | with_reducible exact List.mem_cons_self | with_reducible apply List.mem_cons_of_mem))
  have ct8 := H.cell (w.heap.size) 8 (.bool lg) (by repeat (first | with_reducible exact List.mem_cons_self | with_reducible apply List.mem_cons_of_mem))
  have ct9 := H.cell (w.heap.size) 9 (.bool eo) (by repeat (first | with_reducible exact List.mem_cons_self | with_reducible apply List.mem_cons_of_mem))
  have ct10 := H.cell (w.heap.size) 10 (.int .i64 ro) (by repeat (first | with_reducible exact List.mem_cons_self | with_reducible apply List.mem_cons_of_mem))
  have lt := cell_lt ct0
  go_wp2_with fail
  clear ct0 ct1 ct2 ct3 ct4 ct5 ct6 ct7 ct8 ct9 ct10 lt
  replace H := H.box_11 (w3.heap.size) (.int .i64 mo) (.int .i64 ra) (.int .i64 ki) (.int .i64 co) (.int .i64 st) (.int .i64 en) (.int .i64 ms) (.bool true) (.bool false) (.bool eo) (.int .i64 ro) 23 rfl
  replace H := H.box_11 (w3.heap.size + 1) (.int .i64 mo) (.int .i64 ra) (.int .i64 ki) (.int .i64 co) (.int .i64 st) (.int .i64 en) (.int .i64 ms) (.bool true) (.bool true) (.bool eo) (.int .i64 ro) 23 (by simp)
  (with_reducible refine (OS.out _ (H.factsT (by repeat (first | with_reducible exact List.mem_cons_self | with_reducible apply List.mem_cons_of_mem)))).mono ?_)
  rintro e w4 ⟨aA, cA, rfl, hd, hb⟩
  replace H := (H.below hb).add (f := daysF aA Y (0 + 1 + 1) cA) hd
  clear hb hd
  have cl0 := H.cell (w3.heap.size + 1) 0 (.int .i64 mo) (by repeat (first | with_reducible exact List.mem_cons_self | with_reducible apply List.mem_cons_of_mem))
  have cl1 := H.cell (w3.heap.size + 1) 1 (.int .i64 ra) (by repeat (first | with_reducible exact List.mem_cons_self | with_reducible apply List.mem_cons_of_mem))
  have cl2 := H.cell (w3.heap.size + 1) 2 (.int .i64 ki) (by repeat (first | with_reducible exact List.mem_cons_self | with_reducible apply List.mem_cons_of_mem))
  have cl3 := H.cell (w3.heap.size + 1) 3 (.int .i64 co) (by repeat (first | with_reducible exact List.mem_cons_self | with_reducible apply List.mem_cons_of_mem))
  have cl4 := H.cell (w3.heap.size + 1) 4 (.int .i64 st) (by repeat (first | with_reducible exact List.mem_cons_self | with_reducible apply List.mem_cons_of_mem))
  have cl5 := H.cell (w3.heap.size + 1) 5 (.int .i64 en) (by repeat (first | with_reducible exact List.mem_cons_self | with_reducible apply List.mem_cons_of_mem))
  have cl6 := H.cell (w3.heap.size + 1) 6 (.int .i64 ms) (by repeat (first | with_reducible exact List.mem_cons_self | with_reducible apply List.mem_cons_of_mem))
  have cl7 := H.cell (w3.heap.size + 1) 7 (.bool true) (by repeat (first | with_reducible exact List.mem_cons_self | with_reducible apply List.mem_cons_of_mem))
  have cl8 := H.cell (w3.heap.size + 1) 8 (.bool true) (by repeat (first | with_reducible exact List.mem_cons_self | with_reducible apply List.mem_cons_of_mem))
  have cl9 := H.cell (w3.heap.size + 1) 9 (.bool eo) (by repeat (first | with_reducible exact List.mem_cons_self | with_reducible apply List.mem_cons_of_mem))
  have cl10 := H.cell (w3.heap.size + 1) 10 (.int .i64 ro) (by repeat (first | with_reducible exact List.mem_cons_self | with_reducible apply List.mem_cons_of_mem))
  have ll := cell_lt cl0
  go_wp2_with fail
  clear cl0 cl1 cl2 cl3 cl4 cl5 cl6 cl7 cl8 cl9 cl10 ll
  (with_reducible refine (OL.out _ (H.factsT (by repeat (first | with_reducible exact List.mem_cons_self | with_reducible apply List.mem_cons_of_mem)))).mono ?_)
  rintro e w5 ⟨aB, cB, rfl, hd, hb⟩
  replace H := (H.below hb).add (f := daysF aB Z (0 + 1 + 1) cB) hd
  clear hb hd
  have hz := HZZ.out
  have ct0 := H.cell (w.heap.size) 0 (.int .i64 mo) (by repeat (first | with_reducible exact List.mem_cons_self | with_reducible apply List.mem_cons_of_mem))
  have ct1 := H.cell (w.heap.size) 1 (.int .i64 ra) (by repeat (first | with_reducible exact List.mem_cons_self | with_reducible apply List.mem_cons_of_mem))
  have ct2 := H.cell (w.heap.size) 2 (.int .i64 ki) (by repeat (first | with_reducible exact List.mem_cons_self | with_reducible apply List.mem_cons_of_mem))
  have ct3 := H.cell (w.heap.size) 3 (.int .i64 co) (by repeat (first | with_reducible exact List.mem_cons_self | with_reducible apply List.mem_cons_of_mem))
  have ct4 := H.cell (w.heap.size) 4 (.int .i64 st) (by repeat (first | with_reducible exact List.mem_cons_self | with_reducible apply List.mem_cons_of_mem))
  have ct5 := H.cell (w.heap.size) 5 (.int .i64 en) (by repeat (first | with_reducible exact List.mem_cons_self | with_reducible apply List.mem_cons_of_mem))
  have ct6 := H.cell (w.heap.size) 6 (.int .i64 ms) (by repeat (first | with_reducible exact List.mem_cons_self | with_reducible apply List.mem_cons_of_mem))
  have ct7 := H.cell (w.heap.size) 7 (.bool true) (by repeat (first | with_reducible exact List.mem_cons_self | with_reducible apply List.mem_cons_of_mem))
  have ct8 := H.cell (w.heap.size) 8 (.bool lg) (by repeat (first | with_reducible exact List.mem_cons_self | with_reducible apply List.mem_cons_of_mem))
  have ct9 := H.cell (w.heap.size) 9 (.bool eo) (by repeat (first | with_reducible exact List.mem_cons_self | with_reducible apply List.mem_cons_of_mem))
  have ct10 := H.cell (w.heap.size) 10 (.int .i64 ro) (by repeat (first | with_reducible exact List.mem_cons_self | with_reducible apply List.mem_cons_of_mem))
  have lt := cell_lt ct0
  go_wp2_with fail
  clear ct0 ct1 ct2 ct3 ct4 ct5 ct6 ct7 ct8 ct9 ct10 lt
  clear hz
  (with_reducible refine (M1.out _).mono ?_)
  rintro e w6 ⟨rfl, hb⟩
  replace H := H.below hb
  clear hb
  obtain ⟨x, hx⟩ : ∃ x, X 1 = x := ⟨_, rfl⟩
  rw [hx]
  have HX := Lib.hid hx
  clear hx
  rcases EC.out with ee | ee
  · rw [ee]
    have tx : (x == st) = false := by rw [beq_eq_false_iff_ne]; intro e; exact HW.out ⟨ee, HX.out.trans e⟩
    clear ee
    go_wp2_with fail
    (with_reducible refine (rrow_yes aA (0 + 1 + 1) cA Y aB cB Z _ (by omega) (H.days (ao := aA) (X := Y) (n := (0 + 1 + 1)) (cap := cA) (by repeat (first | with_reducible exact List.mem_cons_self | with_reducible apply List.mem_cons_of_mem))) (H.days (ao := aB) (X := Z) (n := (0 + 1 + 1)) (cap := cB) (by repeat (first | with_reducible exact List.mem_cons_self | with_reducible apply List.mem_cons_of_mem))) (fun i _ => YZ.out i)).mono ?_)
    rintro e w7 ⟨rfl, hb⟩
    replace H := H.below hb
    clear hb
    go_wp2
    go_ret
    exact ⟨rfl, H.old⟩
  · rw [ee]
    clear ee
    go_wp2_with fail
    (with_reducible refine (rrow_yes aA (0 + 1 + 1) cA Y aB cB Z _ (by omega) (H.days (ao := aA) (X := Y) (n := (0 + 1 + 1)) (cap := cA) (by repeat (first | with_reducible exact List.mem_cons_self | with_reducible apply List.mem_cons_of_mem))) (H.days (ao := aB) (X := Z) (n := (0 + 1 + 1)) (cap := cB) (by repeat (first | with_reducible exact List.mem_cons_self | with_reducible apply List.mem_cons_of_mem))) (fun i _ => YZ.out i)).mono ?_)
    rintro e w7 ⟨rfl, hb⟩
    replace H := H.below hb
    clear hb
    go_wp2
    go_ret
    exact ⟨rfl, H.old⟩
set_option maxHeartbeats 16000000 in
set_option maxRecDepth 100000 in
theorem dstub_true_C (mo ra ki co st en ms : Int) (lg eo : Bool) (ro : Int) (r : Nat) (X E : Nat → Int) (w : World) (hL : FactsT w) (hc : (Tm.mk mo ra ki co st en ms true lg eo ro).code = 0) (hs : en - st ≤ 6200) (hWk : (Tm.mk mo ra ki co st en ms true lg eo ro).Walk X E (r + 1 + 1)) (hw : ¬ (E (r + 1 + 1) = 0 ∧ X (r + 1 + 1) = st)) : Calls Tryz.prog 5 #[.agg #[.int .i64 mo, .int .i64 ra, .int .i64 ki, .int .i64 co, .int .i64 st, .int .i64 en, .int .i64 ms, .bool true, .bool lg, .bool eo, .int .i64 ro]] w fun e w' => e = .returned (.bool true) ∧ Below w.heap.size w w' := by
  have H := (Held.start w).add (f := factsTF) hL
  have CK := Lib.hid (fun v => rcheck15 mo ra ki co st en ms true lg eo ro 0 v hc)
  obtain ⟨hf, hd, ho, -, -⟩ := Tm.of_zero hc
  have mb : 1 ≤ ms ∧ ms ≤ 12 := mo_bd hf.2.2.2
  have SHT := Lib.hid (fun v => short_any mo ra ki co st en ms true lg eo ro 200 true v hd.1 hd.2 ho (by omega) (decide_eq_true (by omega)))
  have top := hWk.top
  have W0k : (Tm.mk mo ra ki co st en ms true false eo ro).Walk X E (r + 1 + 1) := hWk.long rfl rfl rfl rfl rfl
  have W1k : (Tm.mk mo ra ki co st en ms true true eo ro).Walk X E (r + 1 + 1) := hWk.long rfl rfl rfl rfl rfl
  have OS := Lib.hid (fun v h => of_dd mo ra ki co st en ms true false eo ro X E (r + 1 + 1) (r + 1) v h hc ho (by omega) W0k (by unfold Tm.q; rw [if_neg (fun g => by cases g.1)]; (try rfl)))
  have OL := Lib.hid (fun v h => of_dd mo ra ki co st en ms true true eo ro X E (r + 1 + 1) r v h hc ho (by omega) W1k (by unfold Tm.q; rw [if_pos ⟨rfl, by omega, hw⟩]; (try rfl)))
  obtain ⟨Y, hY⟩ : ∃ Y, (Tm.mk mo ra ki co st en ms true false eo ro).dd X (r + 1) = Y := ⟨_, rfl⟩
  obtain ⟨Z, hZ⟩ : ∃ Z, (Tm.mk mo ra ki co st en ms true true eo ro).dd X r = Z := ⟨_, rfl⟩
  have MV := Lib.hid (fun (z : Int) (v : World) (hp : ((r : Int) + 1 + 1) * -ms = z) => rmove_any en z (X (r + 1 + 1)) (E (r + 1 + 1)) eo v (by
    have := hWk.mv (r + 1 + 1)
    rw [show (((r + 1 + 1) : Nat) : Int) * (Tm.mk mo ra ki co st en ms true lg eo ro).ap = z by rw [← hp]; rfl] at this
    exact this))
  have Y0 : Hid (Y 0 = st) := Lib.hid (by rw [← hY]; exact Tm.dd_zero _ _ _ W0k.x0)
  have ZY : Hid (∀ i, i < r + 1 + 1 → Z i = ld ([st] ++ dl (fun i => Y (2 + i)) (r + 1)) i) := Lib.hid (fun i hi => by
    rcases Nat.eq_zero_or_pos i with z | z
    · subst z
      rw [← hZ, Tm.dd_zero _ _ _ W1k.x0]
      rfl
    · obtain ⟨j, rfl⟩ : ∃ j, i = j + 1 := ⟨i - 1, by omega⟩
      have e1 : ld ([st] ++ dl (fun i => Y (2 + i)) (r + 1)) (j + 1) = ld (dl (fun i => Y (2 + i)) (r + 1)) j := by simp [ld]
      rw [e1, ld_dl (by omega), ← hZ, ← hY]
      unfold Tm.dd
      rw [if_pos rfl, if_pos rfl, if_neg (by omega), if_neg (by omega), show r + 1 - (j + 1) = r + 1 + 1 - (2 + j) by omega])
  have BY := Lib.hid (fun e => hWk.beyond e)
  have EC := Lib.hid (hWk.code (r + 1 + 1))
  have HW := Lib.hid hw
  obtain ⟨z, hz⟩ : ∃ z, ((r : Int) + 1 + 1) * -ms = z := ⟨_, rfl⟩
  have bz : -20000 ≤ z ∧ z ≤ 20000 := by
    have := mul_bd2 (k := ((r : Int) + 1 + 1)) (a := ms) (by omega) (by omega) mb.1 mb.2
    rw [← hz]
    rw [Int.mul_neg]
    omega
  have M1 := Lib.hid (fun v => MV.out z v hz)
  have HZZ := Lib.hid hz
  rw [hY] at OS
  rw [hZ] at OL
  clear hc hf hd ho hs hWk W0k W1k hY hZ hw hz MV
  clear hL
  go_enter Tryz.func5, Tryz.ntmps5
  go_wp2_with fail
  replace H := H.box_11 (w.heap.size) (.int .i64 mo) (.int .i64 ra) (.int .i64 ki) (.int .i64 co) (.int .i64 st) (.int .i64 en) (.int .i64 ms) (.bool true) (.bool lg) (.bool eo) (.int .i64 ro) 23 rfl
  (with_reducible refine (dshown_any _ (H.factsT (by repeat (first | with_reducible exact List.mem_cons_self | with_reducible apply List.mem_cons_of_mem)))).mono ?_)
  rintro e w1 ⟨rfl, hb⟩
  replace H := H.below hb
  clear hb
  have ct0 := H.cell (w.heap.size) 0 (.int .i64 mo) (by repeat (first | with_reducible exact List.mem_cons_self | with_reducible apply List.mem_cons_of_mem))
  have ct1 := H.cell (w.heap.size) 1 (.int .i64 ra) (by repeat (first | with_reducible exact List.mem_cons_self | with_reducible apply List.mem_cons_of_mem))
  have ct2 := H.cell (w.heap.size) 2 (.int .i64 ki) (by repeat (first | with_reducible exact List.mem_cons_self | with_reducible apply List.mem_cons_of_mem))
  have ct3 := H.cell (w.heap.size) 3 (.int .i64 co) (by repeat (first | with_reducible exact List.mem_cons_self | with_reducible apply List.mem_cons_of_mem))
  have ct4 := H.cell (w.heap.size) 4 (.int .i64 st) (by repeat (first | with_reducible exact List.mem_cons_self | with_reducible apply List.mem_cons_of_mem))
  have ct5 := H.cell (w.heap.size) 5 (.int .i64 en) (by repeat (first | with_reducible exact List.mem_cons_self | with_reducible apply List.mem_cons_of_mem))
  have ct6 := H.cell (w.heap.size) 6 (.int .i64 ms) (by repeat (first | with_reducible exact List.mem_cons_self | with_reducible apply List.mem_cons_of_mem))
  have ct7 := H.cell (w.heap.size) 7 (.bool true) (by repeat (first | with_reducible exact List.mem_cons_self | with_reducible apply List.mem_cons_of_mem))
  have ct8 := H.cell (w.heap.size) 8 (.bool lg) (by repeat (first | with_reducible exact List.mem_cons_self | with_reducible apply List.mem_cons_of_mem))
  have ct9 := H.cell (w.heap.size) 9 (.bool eo) (by repeat (first | with_reducible exact List.mem_cons_self | with_reducible apply List.mem_cons_of_mem))
  have ct10 := H.cell (w.heap.size) 10 (.int .i64 ro) (by repeat (first | with_reducible exact List.mem_cons_self | with_reducible apply List.mem_cons_of_mem))
  have lt := cell_lt ct0
  go_wp2_with fail
  clear ct0 ct1 ct2 ct3 ct4 ct5 ct6 ct7 ct8 ct9 ct10 lt
  (with_reducible refine (CK.out _).mono ?_)
  rintro e w2 ⟨rfl, hb⟩
  replace H := H.below hb
  clear hb
  have ct0 := H.cell (w.heap.size) 0 (.int .i64 mo) (by repeat (first | with_reducible exact List.mem_cons_self | with_reducible apply List.mem_cons_of_mem))
  have ct1 := H.cell (w.heap.size) 1 (.int .i64 ra) (by repeat (first | with_reducible exact List.mem_cons_self | with_reducible apply List.mem_cons_of_mem))
  have ct2 := H.cell (w.heap.size) 2 (.int .i64 ki) (by repeat (first | with_reducible exact List.mem_cons_self | with_reducible apply List.mem_cons_of_mem))
  have ct3 := H.cell (w.heap.size) 3 (.int .i64 co) (by repeat (first | with_reducible exact List.mem_cons_self | with_reducible apply List.mem_cons_of_mem))
  have ct4 := H.cell (w.heap.size) 4 (.int .i64 st) (by repeat (first | with_reducible exact List.mem_cons_self | with_reducible apply List.mem_cons_of_mem))
  have ct5 := H.cell (w.heap.size) 5 (.int .i64 en) (by repeat (first | with_reducible exact List.mem_cons_self | with_reducible apply List.mem_cons_of_mem))
  have ct6 := H.cell (w.heap.size) 6 (.int .i64 ms) (by repeat (first | with_reducible exact List.mem_cons_self | with_reducible apply List.mem_cons_of_mem))
  have ct7 := H.cell (w.heap.size) 7 (.bool true) (by repeat (first | with_reducible exact List.mem_cons_self | with_reducible apply List.mem_cons_of_mem))
  have ct8 := H.cell (w.heap.size) 8 (.bool lg) (by repeat (first | with_reducible exact List.mem_cons_self | with_reducible apply List.mem_cons_of_mem))
  have ct9 := H.cell (w.heap.size) 9 (.bool eo) (by repeat (first | with_reducible exact List.mem_cons_self | with_reducible apply List.mem_cons_of_mem))
  have ct10 := H.cell (w.heap.size) 10 (.int .i64 ro) (by repeat (first | with_reducible exact List.mem_cons_self | with_reducible apply List.mem_cons_of_mem))
  have lt := cell_lt ct0
  go_wp2_with fail
  clear ct0 ct1 ct2 ct3 ct4 ct5 ct6 ct7 ct8 ct9 ct10 lt
  (with_reducible refine (SHT.out _).mono ?_)
  rintro e w3 ⟨rfl, hb⟩
  replace H := H.below hb
  clear hb
  have ct0 := H.cell (w.heap.size) 0 (.int .i64 mo) (by repeat (first | with_reducible exact List.mem_cons_self | with_reducible apply List.mem_cons_of_mem))
  have ct1 := H.cell (w.heap.size) 1 (.int .i64 ra) (by repeat (first | with_reducible exact List.mem_cons_self | with_reducible apply List.mem_cons_of_mem))
  have ct2 := H.cell (w.heap.size) 2 (.int .i64 ki) (by repeat (first | with_reducible exact List.mem_cons_self | with_reducible apply List.mem_cons_of_mem))
  have ct3 := H.cell (w.heap.size) 3 (.int .i64 co) (by repeat (first | with_reducible exact List.mem_cons_self | with_reducible apply List.mem_cons_of_mem))
  have ct4 := H.cell (w.heap.size) 4 (.int .i64 st) (by repeat (first | with_reducible exact List.mem_cons_self | with_reducible apply List.mem_cons_of_mem))
  have ct5 := H.cell (w.heap.size) 5 (.int .i64 en) (by repeat (first | with_reducible exact List.mem_cons_self | with_reducible apply List.mem_cons_of_mem))
  have ct6 := H.cell (w.heap.size) 6 (.int .i64 ms) (by repeat (first | with_reducible exact List.mem_cons_self | with_reducible apply List.mem_cons_of_mem))
  have ct7 := H.cell (w.heap.size) 7 (.bool true) (by repeat (first | with_reducible exact List.mem_cons_self | with_reducible apply List.mem_cons_of_mem))
  have ct8 := H.cell (w.heap.size) 8 (.bool lg) (by repeat (first | with_reducible exact List.mem_cons_self | with_reducible apply List.mem_cons_of_mem))
  have ct9 := H.cell (w.heap.size) 9 (.bool eo) (by repeat (first | with_reducible exact List.mem_cons_self | with_reducible apply List.mem_cons_of_mem))
  have ct10 := H.cell (w.heap.size) 10 (.int .i64 ro) (by repeat (first | with_reducible exact List.mem_cons_self | with_reducible apply List.mem_cons_of_mem))
  have lt := cell_lt ct0
  go_wp2_with fail
  clear ct0 ct1 ct2 ct3 ct4 ct5 ct6 ct7 ct8 ct9 ct10 lt
  replace H := H.box_11 (w3.heap.size) (.int .i64 mo) (.int .i64 ra) (.int .i64 ki) (.int .i64 co) (.int .i64 st) (.int .i64 en) (.int .i64 ms) (.bool true) (.bool false) (.bool eo) (.int .i64 ro) 23 rfl
  replace H := H.box_11 (w3.heap.size + 1) (.int .i64 mo) (.int .i64 ra) (.int .i64 ki) (.int .i64 co) (.int .i64 st) (.int .i64 en) (.int .i64 ms) (.bool true) (.bool true) (.bool eo) (.int .i64 ro) 23 (by simp)
  (with_reducible refine (OS.out _ (H.factsT (by repeat (first | with_reducible exact List.mem_cons_self | with_reducible apply List.mem_cons_of_mem)))).mono ?_)
  rintro e w4 ⟨aA, cA, rfl, hd, hb⟩
  replace H := (H.below hb).add (f := daysF aA Y ((r + 1) + 1 + 1) cA) hd
  clear hb hd
  have cl0 := H.cell (w3.heap.size + 1) 0 (.int .i64 mo) (by repeat (first | with_reducible exact List.mem_cons_self | with_reducible apply List.mem_cons_of_mem))
  have cl1 := H.cell (w3.heap.size + 1) 1 (.int .i64 ra) (by repeat (first | with_reducible exact List.mem_cons_self | with_reducible apply List.mem_cons_of_mem))
  have cl2 := H.cell (w3.heap.size + 1) 2 (.int .i64 ki) (by repeat (first | with_reducible exact List.mem_cons_self | with_reducible apply List.mem_cons_of_mem))
  have cl3 := H.cell (w3.heap.size + 1) 3 (.int .i64 co) (by repeat (first | with_reducible exact List.mem_cons_self | with_reducible apply List.mem_cons_of_mem))
  have cl4 := H.cell (w3.heap.size + 1) 4 (.int .i64 st) (by repeat (first | with_reducible exact List.mem_cons_self | with_reducible apply List.mem_cons_of_mem))
  have cl5 := H.cell (w3.heap.size + 1) 5 (.int .i64 en) (by repeat (first | with_reducible exact List.mem_cons_self | with_reducible apply List.mem_cons_of_mem))
  have cl6 := H.cell (w3.heap.size + 1) 6 (.int .i64 ms) (by repeat (first | with_reducible exact List.mem_cons_self | with_reducible apply List.mem_cons_of_mem))
  have cl7 := H.cell (w3.heap.size + 1) 7 (.bool true) (by repeat (first | with_reducible exact List.mem_cons_self | with_reducible apply List.mem_cons_of_mem))
  have cl8 := H.cell (w3.heap.size + 1) 8 (.bool true) (by repeat (first | with_reducible exact List.mem_cons_self | with_reducible apply List.mem_cons_of_mem))
  have cl9 := H.cell (w3.heap.size + 1) 9 (.bool eo) (by repeat (first | with_reducible exact List.mem_cons_self | with_reducible apply List.mem_cons_of_mem))
  have cl10 := H.cell (w3.heap.size + 1) 10 (.int .i64 ro) (by repeat (first | with_reducible exact List.mem_cons_self | with_reducible apply List.mem_cons_of_mem))
  have ll := cell_lt cl0
  go_wp2_with fail
  clear cl0 cl1 cl2 cl3 cl4 cl5 cl6 cl7 cl8 cl9 cl10 ll
  (with_reducible refine (OL.out _ (H.factsT (by repeat (first | with_reducible exact List.mem_cons_self | with_reducible apply List.mem_cons_of_mem)))).mono ?_)
  rintro e w5 ⟨aB, cB, rfl, hd, hb⟩
  replace H := (H.below hb).add (f := daysF aB Z (r + 1 + 1) cB) hd
  clear hb hd
  have hz := HZZ.out
  have tn : decide ((r : Int) + 1 + 1 + 1 < 2) = false := decide_eq_false (by omega)
  have ct0 := H.cell (w.heap.size) 0 (.int .i64 mo) (by repeat (first | with_reducible exact List.mem_cons_self | with_reducible apply List.mem_cons_of_mem))
  have ct1 := H.cell (w.heap.size) 1 (.int .i64 ra) (by repeat (first | with_reducible exact List.mem_cons_self | with_reducible apply List.mem_cons_of_mem))
  have ct2 := H.cell (w.heap.size) 2 (.int .i64 ki) (by repeat (first | with_reducible exact List.mem_cons_self | with_reducible apply List.mem_cons_of_mem))
  have ct3 := H.cell (w.heap.size) 3 (.int .i64 co) (by repeat (first | with_reducible exact List.mem_cons_self | with_reducible apply List.mem_cons_of_mem))
  have ct4 := H.cell (w.heap.size) 4 (.int .i64 st) (by repeat (first | with_reducible exact List.mem_cons_self | with_reducible apply List.mem_cons_of_mem))
  have ct5 := H.cell (w.heap.size) 5 (.int .i64 en) (by repeat (first | with_reducible exact List.mem_cons_self | with_reducible apply List.mem_cons_of_mem))
  have ct6 := H.cell (w.heap.size) 6 (.int .i64 ms) (by repeat (first | with_reducible exact List.mem_cons_self | with_reducible apply List.mem_cons_of_mem))
  have ct7 := H.cell (w.heap.size) 7 (.bool true) (by repeat (first | with_reducible exact List.mem_cons_self | with_reducible apply List.mem_cons_of_mem))
  have ct8 := H.cell (w.heap.size) 8 (.bool lg) (by repeat (first | with_reducible exact List.mem_cons_self | with_reducible apply List.mem_cons_of_mem))
  have ct9 := H.cell (w.heap.size) 9 (.bool eo) (by repeat (first | with_reducible exact List.mem_cons_self | with_reducible apply List.mem_cons_of_mem))
  have ct10 := H.cell (w.heap.size) 10 (.int .i64 ro) (by repeat (first | with_reducible exact List.mem_cons_self | with_reducible apply List.mem_cons_of_mem))
  have lt := cell_lt ct0
  go_wp2_with fail
  clear ct0 ct1 ct2 ct3 ct4 ct5 ct6 ct7 ct8 ct9 ct10 lt
  clear hz
  (with_reducible refine (M1.out _).mono ?_)
  rintro e w6 ⟨rfl, hb⟩
  replace H := H.below hb
  clear hb
  obtain ⟨x, hx⟩ : ∃ x, X (r + 1 + 1) = x := ⟨_, rfl⟩
  rw [hx]
  have HX := Lib.hid hx
  clear hx
  have tn2 : ((r : Int) + 1 + 1 + 1 == 2) = false := by rw [beq_eq_false_iff_ne]; omega
  rcases EC.out with ee | ee
  · rw [ee]
    have tx : (x == st) = false := by rw [beq_eq_false_iff_ne]; intro e; exact HW.out ⟨ee, HX.out.trans e⟩
    have ty : decide (x > st) = false := decide_eq_false (by have := BY.out ee; rw [HX.out] at this; simp at this; omega)
    clear ee
    have ct0 := H.cell (w.heap.size) 0 (.int .i64 mo) (by repeat (first | with_reducible exact List.mem_cons_self | with_reducible apply List.mem_cons_of_mem))
    have ct1 := H.cell (w.heap.size) 1 (.int .i64 ra) (by repeat (first | with_reducible exact List.mem_cons_self | with_reducible apply List.mem_cons_of_mem))
    have ct2 := H.cell (w.heap.size) 2 (.int .i64 ki) (by repeat (first | with_reducible exact List.mem_cons_self | with_reducible apply List.mem_cons_of_mem))
    have ct3 := H.cell (w.heap.size) 3 (.int .i64 co) (by repeat (first | with_reducible exact List.mem_cons_self | with_reducible apply List.mem_cons_of_mem))
    have ct4 := H.cell (w.heap.size) 4 (.int .i64 st) (by repeat (first | with_reducible exact List.mem_cons_self | with_reducible apply List.mem_cons_of_mem))
    have ct5 := H.cell (w.heap.size) 5 (.int .i64 en) (by repeat (first | with_reducible exact List.mem_cons_self | with_reducible apply List.mem_cons_of_mem))
    have ct6 := H.cell (w.heap.size) 6 (.int .i64 ms) (by repeat (first | with_reducible exact List.mem_cons_self | with_reducible apply List.mem_cons_of_mem))
    have ct7 := H.cell (w.heap.size) 7 (.bool true) (by repeat (first | with_reducible exact List.mem_cons_self | with_reducible apply List.mem_cons_of_mem))
    have ct8 := H.cell (w.heap.size) 8 (.bool lg) (by repeat (first | with_reducible exact List.mem_cons_self | with_reducible apply List.mem_cons_of_mem))
    have ct9 := H.cell (w.heap.size) 9 (.bool eo) (by repeat (first | with_reducible exact List.mem_cons_self | with_reducible apply List.mem_cons_of_mem))
    have ct10 := H.cell (w.heap.size) 10 (.int .i64 ro) (by repeat (first | with_reducible exact List.mem_cons_self | with_reducible apply List.mem_cons_of_mem))
    have lt := cell_lt ct0
    go_upto_region 27 with fail
    obtain ⟨bA, oA, rfl, hA⟩ := (H.days (ao := aA) (X := Y) (n := ((r + 1) + 1 + 1)) (cap := cA) (by repeat (first | with_reducible exact List.mem_cons_self | with_reducible apply List.mem_cons_of_mem))).2 (by omega)
    have hcA := (H.days (ao := some ⟨bA, oA, none⟩) (X := Y) (n := ((r + 1) + 1 + 1)) (cap := cA) (by repeat (first | with_reducible exact List.mem_cons_self | with_reducible apply List.mem_cons_of_mem))).1
    have a0 := hA 0 (by omega)
    rw [Nat.add_zero, Y0.out] at a0
    replace H := H.add (f := .cell bA oA (.int .i64 st)) a0
    have we : (0 : Int) < (r : Int) + 1 + 1 + 1 := by omega
    have wf : (2 : Int) ≤ (r : Int) + 1 + 1 + 1 := by omega
    have wg : (2 : Int) ≤ (cA : Int) := by omega
    clear a0 hA
    obtain ⟨i0, hi, hz0, hz1, hz2⟩ := info_parts infoInt13
    replace H := H.drew
    refine wp_region_held_drew (S := fun w' => w'.cell? ⟨bA, oA, none⟩ = some (.int .i64 st)) (by kernel_rfl) (H.cell (bA) (oA) (.int .i64 st) (by repeat (first | with_reducible exact List.mem_cons_self | with_reducible apply List.mem_cons_of_mem))) (fun hHeld => ?_)
    obtain ⟨WD, hWD⟩ : ∃ WD, World.drew (w6) = WD := ⟨_, rfl⟩
    rw [hWD] at H hHeld ⊢
    clear hWD
    obtain ⟨b0, hb0⟩ : ∃ b0, WD.heap.size = b0 := ⟨_, rfl⟩
    have HB := Below.refl b0 WD
    have HWD := Lib.hid H
    have HS : Hid (∀ W, Below b0 WD W → b0 ≤ W.heap.size) := Lib.hid (fun W h => by have z := h.size; rw [hb0] at z; exact z)
    have HU : Hid (∀ W, Below b0 WD W → Below WD.heap.size WD W) := Lib.hid (fun W h => by rw [hb0]; exact h)
    clear hb0
    refine wpAnyH_take (i := 0) (oi := ⟨some 120, _, _, _, _, _⟩) (v := ?_) rfl (by kernel_rfl) (by kernel_rfl) (by kernel_rfl) (fun _ _ _ h => h) (Or.inl ⟨by rfl, ?_⟩) (by assumption) ?_
    rotate_left
    · intro w hSw; (try dsimp only at hSw); go_simp; try with_reducible rfl
    simp only [Act.put, List.setIfInBounds_toArray, List.set_cons_zero, List.set_cons_succ]
    refine wpAnyH_take (i := 1) (oi := ⟨some 121, _, _, _, _, _⟩) (v := ?_) rfl (by kernel_rfl) (by kernel_rfl) (by kernel_rfl) (fun _ _ _ h => h) (Or.inl ⟨by rfl, ?_⟩) (by assumption) ?_
    rotate_left
    · intro w hSw; (try dsimp only at hSw); go_simp; try with_reducible rfl
    simp only [Act.put, List.setIfInBounds_toArray, List.set_cons_zero, List.set_cons_succ]
    refine wpAnyH_take (i := 2) (oi := ⟨some 122, _, _, _, _, _⟩) (v := ?_) rfl (by kernel_rfl) (by kernel_rfl) (by kernel_rfl) (fun _ _ _ h => h) (Or.inl ⟨by rfl, ?_⟩) (by assumption) ?_
    rotate_left
    · intro w hSw; (try dsimp only at hSw); go_simp; try with_reducible rfl
    simp only [Act.put, List.setIfInBounds_toArray, List.set_cons_zero, List.set_cons_succ]
    refine wpAnyH_take (i := 3) (oi := ⟨some 123, _, _, _, _, _⟩) (v := ?_) rfl (by kernel_rfl) (by kernel_rfl) (by kernel_rfl) (fun _ _ _ h => h) (Or.inl ⟨by rfl, ?_⟩) (by assumption) ?_
    rotate_left
    · intro w hSw; (try dsimp only at hSw); go_simp; try with_reducible rfl
    simp only [Act.put, List.setIfInBounds_toArray, List.set_cons_zero, List.set_cons_succ]
    refine wpAnyH_take (i := 4) (oi := ⟨some 124, _, _, _, _, _⟩) (v := ?_) rfl (by kernel_rfl) (by kernel_rfl) (by kernel_rfl) (fun _ _ _ h => h) (Or.inl ⟨by rfl, ?_⟩) (by assumption) ?_
    rotate_left
    · intro w hSw; (try dsimp only at hSw); go_simp; try with_reducible rfl
    simp only [Act.put, List.setIfInBounds_toArray, List.set_cons_zero, List.set_cons_succ]
    refine wpAnyH_take (i := 5) (oi := ⟨some 125, _, _, _, _, _⟩) (v := ?_) rfl (by kernel_rfl) (by kernel_rfl) (by kernel_rfl) (fun _ _ _ h => h) (Or.inl ⟨by rfl, ?_⟩) (by assumption) ?_
    rotate_left
    · intro w hSw; (try dsimp only at hSw); go_simp; try with_reducible rfl
    simp only [Act.put, List.setIfInBounds_toArray, List.set_cons_zero, List.set_cons_succ]
    refine wpAnyH_take (i := 7) (oi := ⟨some 127, _, _, _, _, _⟩) (v := ?_) rfl (by kernel_rfl) (by kernel_rfl) (by kernel_rfl) (fun _ _ _ h => h) (Or.inl ⟨by rfl, ?_⟩) (by assumption) ?_
    rotate_left
    · intro w hSw; (try dsimp only at hSw); go_simp; try with_reducible rfl
    simp only [Act.put, List.setIfInBounds_toArray, List.set_cons_zero, List.set_cons_succ]
    refine wpAnyH_take (i := 8) (oi := ⟨some 128, _, _, _, _, _⟩) (v := .slice (some ⟨bA, oA + 2, none⟩) (r + 1) (cA - 2)) rfl (by kernel_rfl) (by kernel_rfl) (by kernel_rfl) (fun _ _ _ h => h) (Or.inl ⟨by rfl, ?_⟩) (by assumption) ?_
    · intro w hSw; (try dsimp only at hSw); go_simp; (try with_reducible rfl); (try omega)
    simp only [Act.put, List.setIfInBounds_toArray, List.set_cons_zero, List.set_cons_succ]
    refine wpAnyH_ready (rs := [6]) (by kernel_rfl) (by simp) ?_
    refine AllReadyH.cons (o := ⟨some 126, _, _, _, _, _⟩) rfl (fun K hK => ?_) AllReadyH.nil
    have OW := own_one16 (W := WD) (base := b0) (st) (HS.out _ HB)
    replace H := H.alloc (.cells #[.int .i64 (st)] 3)
    replace HB := HB.alloc (HS.out _ HB) (.cells #[.int .i64 (st)] 3)
    go_simp
    refine hK.out _ _ (H.cell (bA) (oA) (.int .i64 st) (by repeat (first | with_reducible exact List.mem_cons_self | with_reducible apply List.mem_cons_of_mem))) (fun hNew => ?_)
    clear hK K hHeld
    have hHeld := hNew
    clear hNew
    try simp only [Act.put, List.setIfInBounds_toArray, List.set_cons_zero, List.set_cons_succ]
    obtain ⟨T1, hT1⟩ : ∃ T, WD.heap.size = T := ⟨_, rfl⟩
    obtain ⟨U1, hU1⟩ : ∃ U, WD.alloc (.cells #[.int .i64 (st)] 3) = U := ⟨_, rfl⟩
    rw [hU1] at H HB hHeld ⊢
    (try rw [hT1])
    rw [hU1] at OW
    (try rw [hT1] at OW)
    clear hT1 hU1
    refine wpAnyH_ready (rs := [9]) (by kernel_rfl) (by simp) ?_
    refine AllReadyH.cons (o := ⟨some 129, _, _, _, _, _⟩) rfl (fun K hK => ?_) AllReadyH.nil
    obtain ⟨v2, U2, hr, ho, hg⟩ := app13 b0 27 27 3 i0 (.int .i64 0) 1 8 Tryz.underlying27 hi hz0 hz1 hz2 rfl (by decide) _ _ _ OW (some ⟨bA, oA + 2, none⟩) (r + 1) (cA - 2) (il (dl (fun i => Y (2 + i)) (r + 1))) (show Row13 _ 1 _ (r + 1) (il (dl (fun i => Y (2 + i)) (r + 1))) from row_days (((H.days (ao := some ⟨bA, oA, none⟩) (X := Y) (n := ((r + 1) + 1 + 1)) (cap := cA) (by repeat (first | with_reducible exact List.mem_cons_self | with_reducible apply List.mem_cons_of_mem)))).drop (k := 2) (by omega))) (by omega) (by decide) (HS.out _ HB)
    have HB2 := HB.trans (grown_own (HS.out _ HB) OW hg)
    rw [il_app, show 1 + (r + 1) = r + 1 + 1 by omega] at ho
    obtain ⟨aN, cN, rfl, hN⟩ := own_days13 (l := ([st] ++ dl (fun i => Y (2 + i)) (r + 1))) (by simp [dl]) ho
    have HN := Lib.hid hN
    clear hN
    have H2 := HWD.out.below (HU.out _ HB2)
    clear H HB
    have H := H2
    have HB := HB2
    clear H2 HB2 OW
    have OW := ho
    clear ho hg
    (try rw [if_pos (by rfl)])
    refine Lib.wp_append_run _ (.tmp 126) (.tmp 128) 27 27 rfl _ _ rfl rfl _ _ hr ?_
    clear hr
    refine hK.out _ _ (H.cell (bA) (oA) (.int .i64 st) (by repeat (first | with_reducible exact List.mem_cons_self | with_reducible apply List.mem_cons_of_mem))) (fun hNew => ?_)
    clear hK K hHeld
    have hHeld := hNew
    clear hNew
    try simp only [Act.put, List.setIfInBounds_toArray, List.set_cons_zero, List.set_cons_succ]
    refine wpAnyH_ready (rs := [10]) (by kernel_rfl) (by simp) ?_
    refine AllReadyH.cons (o := ⟨some 130, _, _, _, _, _⟩) rfl (fun K hK => ?_) AllReadyH.nil
    go_simp
    (with_reducible refine (rrow_yes aB (r + 1 + 1) cB Z aN cN (ld ([st] ++ dl (fun i => Y (2 + i)) (r + 1))) _ (by omega) (H.days (ao := aB) (X := Z) (n := (r + 1 + 1)) (cap := cB) (by repeat (first | with_reducible exact List.mem_cons_self | with_reducible apply List.mem_cons_of_mem))) HN.out (fun i hi => ZY.out i hi)).mono ?_)
    rintro e U3 ⟨rfl, hb⟩
    replace H := H.below hb
    replace HB := HB.trans (hb.mono (HS.out _ HB))
    (try replace OW := own_below13 OW hb)
    clear hb
    go_wp2_with fail
    refine hK.out _ _ (H.cell (bA) (oA) (.int .i64 st) (by repeat (first | with_reducible exact List.mem_cons_self | with_reducible apply List.mem_cons_of_mem))) (fun hNew => ?_)
    clear hK K hHeld
    have hHeld := hNew
    clear hNew
    try simp only [Act.put, List.setIfInBounds_toArray, List.set_cons_zero, List.set_cons_succ]
    refine wpAnyH_take (i := 11) (oi := ⟨some 131, _, _, _, _, _⟩) (v := ?_) rfl (by kernel_rfl) (by kernel_rfl) (by kernel_rfl) (fun _ _ _ h => h) (Or.inl ⟨by rfl, ?_⟩) (by assumption) ?_
    rotate_left
    · intro w hSw; (try dsimp only at hSw); go_simp; try with_reducible rfl
    simp only [Act.put, List.setIfInBounds_toArray, List.set_cons_zero, List.set_cons_succ]
    refine wpAnyH_take (i := 12) (oi := ⟨some 2, _, _, _, _, _⟩) (v := ?_) rfl (by kernel_rfl) (by kernel_rfl) (by kernel_rfl) (fun _ _ _ h => h) (Or.inl ⟨by rfl, ?_⟩) (by assumption) ?_
    rotate_left
    · intro w hSw; (try dsimp only at hSw); go_simp; try with_reducible rfl
    simp only [Act.put, List.setIfInBounds_toArray, List.set_cons_zero, List.set_cons_succ]
    refine wpAnyH_done (by kernel_rfl) ?_ _
    clear hHeld
    go_wp2
    go_ret
    exact ⟨rfl, H.old⟩
  · rw [ee]
    clear ee
    have ct0 := H.cell (w.heap.size) 0 (.int .i64 mo) (by repeat (first | with_reducible exact List.mem_cons_self | with_reducible apply List.mem_cons_of_mem))
    have ct1 := H.cell (w.heap.size) 1 (.int .i64 ra) (by repeat (first | with_reducible exact List.mem_cons_self | with_reducible apply List.mem_cons_of_mem))
    have ct2 := H.cell (w.heap.size) 2 (.int .i64 ki) (by repeat (first | with_reducible exact List.mem_cons_self | with_reducible apply List.mem_cons_of_mem))
    have ct3 := H.cell (w.heap.size) 3 (.int .i64 co) (by repeat (first | with_reducible exact List.mem_cons_self | with_reducible apply List.mem_cons_of_mem))
    have ct4 := H.cell (w.heap.size) 4 (.int .i64 st) (by repeat (first | with_reducible exact List.mem_cons_self | with_reducible apply List.mem_cons_of_mem))
    have ct5 := H.cell (w.heap.size) 5 (.int .i64 en) (by repeat (first | with_reducible exact List.mem_cons_self | with_reducible apply List.mem_cons_of_mem))
    have ct6 := H.cell (w.heap.size) 6 (.int .i64 ms) (by repeat (first | with_reducible exact List.mem_cons_self | with_reducible apply List.mem_cons_of_mem))
    have ct7 := H.cell (w.heap.size) 7 (.bool true) (by repeat (first | with_reducible exact List.mem_cons_self | with_reducible apply List.mem_cons_of_mem))
    have ct8 := H.cell (w.heap.size) 8 (.bool lg) (by repeat (first | with_reducible exact List.mem_cons_self | with_reducible apply List.mem_cons_of_mem))
    have ct9 := H.cell (w.heap.size) 9 (.bool eo) (by repeat (first | with_reducible exact List.mem_cons_self | with_reducible apply List.mem_cons_of_mem))
    have ct10 := H.cell (w.heap.size) 10 (.int .i64 ro) (by repeat (first | with_reducible exact List.mem_cons_self | with_reducible apply List.mem_cons_of_mem))
    have lt := cell_lt ct0
    go_upto_region 27 with fail
    obtain ⟨bA, oA, rfl, hA⟩ := (H.days (ao := aA) (X := Y) (n := ((r + 1) + 1 + 1)) (cap := cA) (by repeat (first | with_reducible exact List.mem_cons_self | with_reducible apply List.mem_cons_of_mem))).2 (by omega)
    have hcA := (H.days (ao := some ⟨bA, oA, none⟩) (X := Y) (n := ((r + 1) + 1 + 1)) (cap := cA) (by repeat (first | with_reducible exact List.mem_cons_self | with_reducible apply List.mem_cons_of_mem))).1
    have a0 := hA 0 (by omega)
    rw [Nat.add_zero, Y0.out] at a0
    replace H := H.add (f := .cell bA oA (.int .i64 st)) a0
    have we : (0 : Int) < (r : Int) + 1 + 1 + 1 := by omega
    have wf : (2 : Int) ≤ (r : Int) + 1 + 1 + 1 := by omega
    have wg : (2 : Int) ≤ (cA : Int) := by omega
    clear a0 hA
    obtain ⟨i0, hi, hz0, hz1, hz2⟩ := info_parts infoInt13
    replace H := H.drew
    refine wp_region_held_drew (S := fun w' => w'.cell? ⟨bA, oA, none⟩ = some (.int .i64 st)) (by kernel_rfl) (H.cell (bA) (oA) (.int .i64 st) (by repeat (first | with_reducible exact List.mem_cons_self | with_reducible apply List.mem_cons_of_mem))) (fun hHeld => ?_)
    obtain ⟨WD, hWD⟩ : ∃ WD, World.drew (w6) = WD := ⟨_, rfl⟩
    rw [hWD] at H hHeld ⊢
    clear hWD
    obtain ⟨b0, hb0⟩ : ∃ b0, WD.heap.size = b0 := ⟨_, rfl⟩
    have HB := Below.refl b0 WD
    have HWD := Lib.hid H
    have HS : Hid (∀ W, Below b0 WD W → b0 ≤ W.heap.size) := Lib.hid (fun W h => by have z := h.size; rw [hb0] at z; exact z)
    have HU : Hid (∀ W, Below b0 WD W → Below WD.heap.size WD W) := Lib.hid (fun W h => by rw [hb0]; exact h)
    clear hb0
    refine wpAnyH_take (i := 0) (oi := ⟨some 120, _, _, _, _, _⟩) (v := ?_) rfl (by kernel_rfl) (by kernel_rfl) (by kernel_rfl) (fun _ _ _ h => h) (Or.inl ⟨by rfl, ?_⟩) (by assumption) ?_
    rotate_left
    · intro w hSw; (try dsimp only at hSw); go_simp; try with_reducible rfl
    simp only [Act.put, List.setIfInBounds_toArray, List.set_cons_zero, List.set_cons_succ]
    refine wpAnyH_take (i := 1) (oi := ⟨some 121, _, _, _, _, _⟩) (v := ?_) rfl (by kernel_rfl) (by kernel_rfl) (by kernel_rfl) (fun _ _ _ h => h) (Or.inl ⟨by rfl, ?_⟩) (by assumption) ?_
    rotate_left
    · intro w hSw; (try dsimp only at hSw); go_simp; try with_reducible rfl
    simp only [Act.put, List.setIfInBounds_toArray, List.set_cons_zero, List.set_cons_succ]
    refine wpAnyH_take (i := 2) (oi := ⟨some 122, _, _, _, _, _⟩) (v := ?_) rfl (by kernel_rfl) (by kernel_rfl) (by kernel_rfl) (fun _ _ _ h => h) (Or.inl ⟨by rfl, ?_⟩) (by assumption) ?_
    rotate_left
    · intro w hSw; (try dsimp only at hSw); go_simp; try with_reducible rfl
    simp only [Act.put, List.setIfInBounds_toArray, List.set_cons_zero, List.set_cons_succ]
    refine wpAnyH_take (i := 3) (oi := ⟨some 123, _, _, _, _, _⟩) (v := ?_) rfl (by kernel_rfl) (by kernel_rfl) (by kernel_rfl) (fun _ _ _ h => h) (Or.inl ⟨by rfl, ?_⟩) (by assumption) ?_
    rotate_left
    · intro w hSw; (try dsimp only at hSw); go_simp; try with_reducible rfl
    simp only [Act.put, List.setIfInBounds_toArray, List.set_cons_zero, List.set_cons_succ]
    refine wpAnyH_take (i := 4) (oi := ⟨some 124, _, _, _, _, _⟩) (v := ?_) rfl (by kernel_rfl) (by kernel_rfl) (by kernel_rfl) (fun _ _ _ h => h) (Or.inl ⟨by rfl, ?_⟩) (by assumption) ?_
    rotate_left
    · intro w hSw; (try dsimp only at hSw); go_simp; try with_reducible rfl
    simp only [Act.put, List.setIfInBounds_toArray, List.set_cons_zero, List.set_cons_succ]
    refine wpAnyH_take (i := 5) (oi := ⟨some 125, _, _, _, _, _⟩) (v := ?_) rfl (by kernel_rfl) (by kernel_rfl) (by kernel_rfl) (fun _ _ _ h => h) (Or.inl ⟨by rfl, ?_⟩) (by assumption) ?_
    rotate_left
    · intro w hSw; (try dsimp only at hSw); go_simp; try with_reducible rfl
    simp only [Act.put, List.setIfInBounds_toArray, List.set_cons_zero, List.set_cons_succ]
    refine wpAnyH_take (i := 7) (oi := ⟨some 127, _, _, _, _, _⟩) (v := ?_) rfl (by kernel_rfl) (by kernel_rfl) (by kernel_rfl) (fun _ _ _ h => h) (Or.inl ⟨by rfl, ?_⟩) (by assumption) ?_
    rotate_left
    · intro w hSw; (try dsimp only at hSw); go_simp; try with_reducible rfl
    simp only [Act.put, List.setIfInBounds_toArray, List.set_cons_zero, List.set_cons_succ]
    refine wpAnyH_take (i := 8) (oi := ⟨some 128, _, _, _, _, _⟩) (v := .slice (some ⟨bA, oA + 2, none⟩) (r + 1) (cA - 2)) rfl (by kernel_rfl) (by kernel_rfl) (by kernel_rfl) (fun _ _ _ h => h) (Or.inl ⟨by rfl, ?_⟩) (by assumption) ?_
    · intro w hSw; (try dsimp only at hSw); go_simp; (try with_reducible rfl); (try omega)
    simp only [Act.put, List.setIfInBounds_toArray, List.set_cons_zero, List.set_cons_succ]
    refine wpAnyH_ready (rs := [6]) (by kernel_rfl) (by simp) ?_
    refine AllReadyH.cons (o := ⟨some 126, _, _, _, _, _⟩) rfl (fun K hK => ?_) AllReadyH.nil
    have OW := own_one16 (W := WD) (base := b0) (st) (HS.out _ HB)
    replace H := H.alloc (.cells #[.int .i64 (st)] 3)
    replace HB := HB.alloc (HS.out _ HB) (.cells #[.int .i64 (st)] 3)
    go_simp
    refine hK.out _ _ (H.cell (bA) (oA) (.int .i64 st) (by repeat (first | with_reducible exact List.mem_cons_self | with_reducible apply List.mem_cons_of_mem))) (fun hNew => ?_)
    clear hK K hHeld
    have hHeld := hNew
    clear hNew
    try simp only [Act.put, List.setIfInBounds_toArray, List.set_cons_zero, List.set_cons_succ]
    obtain ⟨T1, hT1⟩ : ∃ T, WD.heap.size = T := ⟨_, rfl⟩
    obtain ⟨U1, hU1⟩ : ∃ U, WD.alloc (.cells #[.int .i64 (st)] 3) = U := ⟨_, rfl⟩
    rw [hU1] at H HB hHeld ⊢
    (try rw [hT1])
    rw [hU1] at OW
    (try rw [hT1] at OW)
    clear hT1 hU1
    refine wpAnyH_ready (rs := [9]) (by kernel_rfl) (by simp) ?_
    refine AllReadyH.cons (o := ⟨some 129, _, _, _, _, _⟩) rfl (fun K hK => ?_) AllReadyH.nil
    obtain ⟨v2, U2, hr, ho, hg⟩ := app13 b0 27 27 3 i0 (.int .i64 0) 1 8 Tryz.underlying27 hi hz0 hz1 hz2 rfl (by decide) _ _ _ OW (some ⟨bA, oA + 2, none⟩) (r + 1) (cA - 2) (il (dl (fun i => Y (2 + i)) (r + 1))) (show Row13 _ 1 _ (r + 1) (il (dl (fun i => Y (2 + i)) (r + 1))) from row_days (((H.days (ao := some ⟨bA, oA, none⟩) (X := Y) (n := ((r + 1) + 1 + 1)) (cap := cA) (by repeat (first | with_reducible exact List.mem_cons_self | with_reducible apply List.mem_cons_of_mem)))).drop (k := 2) (by omega))) (by omega) (by decide) (HS.out _ HB)
    have HB2 := HB.trans (grown_own (HS.out _ HB) OW hg)
    rw [il_app, show 1 + (r + 1) = r + 1 + 1 by omega] at ho
    obtain ⟨aN, cN, rfl, hN⟩ := own_days13 (l := ([st] ++ dl (fun i => Y (2 + i)) (r + 1))) (by simp [dl]) ho
    have HN := Lib.hid hN
    clear hN
    have H2 := HWD.out.below (HU.out _ HB2)
    clear H HB
    have H := H2
    have HB := HB2
    clear H2 HB2 OW
    have OW := ho
    clear ho hg
    (try rw [if_pos (by rfl)])
    refine Lib.wp_append_run _ (.tmp 126) (.tmp 128) 27 27 rfl _ _ rfl rfl _ _ hr ?_
    clear hr
    refine hK.out _ _ (H.cell (bA) (oA) (.int .i64 st) (by repeat (first | with_reducible exact List.mem_cons_self | with_reducible apply List.mem_cons_of_mem))) (fun hNew => ?_)
    clear hK K hHeld
    have hHeld := hNew
    clear hNew
    try simp only [Act.put, List.setIfInBounds_toArray, List.set_cons_zero, List.set_cons_succ]
    refine wpAnyH_ready (rs := [10]) (by kernel_rfl) (by simp) ?_
    refine AllReadyH.cons (o := ⟨some 130, _, _, _, _, _⟩) rfl (fun K hK => ?_) AllReadyH.nil
    go_simp
    (with_reducible refine (rrow_yes aB (r + 1 + 1) cB Z aN cN (ld ([st] ++ dl (fun i => Y (2 + i)) (r + 1))) _ (by omega) (H.days (ao := aB) (X := Z) (n := (r + 1 + 1)) (cap := cB) (by repeat (first | with_reducible exact List.mem_cons_self | with_reducible apply List.mem_cons_of_mem))) HN.out (fun i hi => ZY.out i hi)).mono ?_)
    rintro e U3 ⟨rfl, hb⟩
    replace H := H.below hb
    replace HB := HB.trans (hb.mono (HS.out _ HB))
    (try replace OW := own_below13 OW hb)
    clear hb
    go_wp2_with fail
    refine hK.out _ _ (H.cell (bA) (oA) (.int .i64 st) (by repeat (first | with_reducible exact List.mem_cons_self | with_reducible apply List.mem_cons_of_mem))) (fun hNew => ?_)
    clear hK K hHeld
    have hHeld := hNew
    clear hNew
    try simp only [Act.put, List.setIfInBounds_toArray, List.set_cons_zero, List.set_cons_succ]
    refine wpAnyH_take (i := 11) (oi := ⟨some 131, _, _, _, _, _⟩) (v := ?_) rfl (by kernel_rfl) (by kernel_rfl) (by kernel_rfl) (fun _ _ _ h => h) (Or.inl ⟨by rfl, ?_⟩) (by assumption) ?_
    rotate_left
    · intro w hSw; (try dsimp only at hSw); go_simp; try with_reducible rfl
    simp only [Act.put, List.setIfInBounds_toArray, List.set_cons_zero, List.set_cons_succ]
    refine wpAnyH_take (i := 12) (oi := ⟨some 2, _, _, _, _, _⟩) (v := ?_) rfl (by kernel_rfl) (by kernel_rfl) (by kernel_rfl) (fun _ _ _ h => h) (Or.inl ⟨by rfl, ?_⟩) (by assumption) ?_
    rotate_left
    · intro w hSw; (try dsimp only at hSw); go_simp; try with_reducible rfl
    simp only [Act.put, List.setIfInBounds_toArray, List.set_cons_zero, List.set_cons_succ]
    refine wpAnyH_done (by kernel_rfl) ?_ _
    clear hHeld
    go_wp2
    go_ret
    exact ⟨rfl, H.old⟩
theorem dstub_walk (mo ra ki co st en ms : Int) (bk lg eo : Bool) (ro : Int) (w : World) (hL : FactsT w) : Calls Tryz.prog 5 #[.agg #[.int .i64 mo, .int .i64 ra, .int .i64 ki, .int .i64 co, .int .i64 st, .int .i64 en, .int .i64 ms, .bool bk, .bool lg, .bool eo, .int .i64 ro]] w fun e w' => e = .returned (.bool true) ∧ Below w.heap.size w w' := by
  by_cases hc : (Tm.mk mo ra ki co st en ms bk lg eo ro).code = 0
  · by_cases hs : en - st ≤ 6200
    · obtain ⟨X, E, m, hWk⟩ := Tm.walk (Tm.mk mo ra ki co st en ms bk lg eo ro) hc (by show en - st ≤ 30000; omega)
      obtain ⟨p, rfl⟩ : ∃ p, m = p + 1 := ⟨m - 1, by have := hWk.one; omega⟩
      cases bk
      · by_cases hw : E (p + 1) = 0 ∧ X (p + 1) = en
        · exact dstub_false_A mo ra ki co st en ms lg eo ro p X E w hL hc hs hWk hw
        · match p, hWk, hw with
          | 0, hWk, hw => exact dstub_false_B mo ra ki co st en ms lg eo ro X E w hL hc hs hWk hw
          | r + 1, hWk, hw => exact dstub_false_C mo ra ki co st en ms lg eo ro r X E w hL hc hs hWk hw
      · by_cases hw : E (p + 1) = 0 ∧ X (p + 1) = st
        · exact dstub_true_A mo ra ki co st en ms lg eo ro p X E w hL hc hs hWk hw
        · match p, hWk, hw with
          | 0, hWk, hw => exact dstub_true_B mo ra ki co st en ms lg eo ro X E w hL hc hs hWk hw
          | r + 1, hWk, hw => exact dstub_true_C mo ra ki co st en ms lg eo ro r X E w hL hc hs hWk hw
    · exact dstub_far mo ra ki co st en ms bk lg eo ro w hL hc (by omega)
  · exact dstub_no mo ra ki co st en ms bk lg eo ro _ w hL rfl hc
end Go.Proofs.YtjijgcgbnmobfaaGreatDoor
