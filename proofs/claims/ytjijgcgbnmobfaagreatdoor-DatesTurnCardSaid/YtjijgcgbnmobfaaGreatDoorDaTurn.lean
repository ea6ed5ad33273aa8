/- DatesTurn: what terms say of money, rate, kind and ways turns no day; ends that stay turn none, if the anchor is no month's end. -/
import Derived.Test.YtjijgcgbnmobfaaGreatDoorDaShown
namespace Go.Proofs.YtjijgcgbnmobfaaGreatDoor
open Go.RowKit
set_option linter.unusedVariables false
set_option linter.unusedSimpArgs false

theorem Held.box_15 {w W : World} {fs : List Fact} (h : Held w fs W) (B : Nat) (x0 x1 x2 x3 x4 x5 x6 x7 x8 x9 x10 x11 x12 x13 x14 : Value) (t : TypeId) (hB : W.heap.size = B) :
    Held w (.cell B 0 x0 :: .cell B 1 x1 :: .cell B 2 x2 :: .cell B 3 x3 :: .cell B 4 x4 :: .cell B 5 x5 :: .cell B 6 x6 :: .cell B 7 x7 :: .cell B 8 x8 :: .cell B 9 x9 :: .cell B 10 x10 :: .cell B 11 x11 :: .cell B 12 x12 :: .cell B 13 x13 :: .cell B 14 x14 :: .free B 0 :: .free B 1 :: .free B 2 :: .free B 3 :: .free B 4 :: .free B 5 :: .free B 6 :: .free B 7 :: .free B 8 :: .free B 9 :: .free B 10 :: .free B 11 :: .free B 12 :: .free B 13 :: .free B 14 :: fs) (W.alloc (.cells #[x0, x1, x2, x3, x4, x5, x6, x7, x8, x9, x10, x11, x12, x13, x14] t)) := by
  subst hB
  exact ((((((((((((((((((((((((((((((h.alloc _).add (f := .free W.heap.size 14) ⟨by simp, by simp [go_sem]⟩).add (f := .free W.heap.size 13) ⟨by simp, by simp [go_sem]⟩).add (f := .free W.heap.size 12) ⟨by simp, by simp [go_sem]⟩).add (f := .free W.heap.size 11) ⟨by simp, by simp [go_sem]⟩).add (f := .free W.heap.size 10) ⟨by simp, by simp [go_sem]⟩).add (f := .free W.heap.size 9) ⟨by simp, by simp [go_sem]⟩).add (f := .free W.heap.size 8) ⟨by simp, by simp [go_sem]⟩).add (f := .free W.heap.size 7) ⟨by simp, by simp [go_sem]⟩).add (f := .free W.heap.size 6) ⟨by simp, by simp [go_sem]⟩).add (f := .free W.heap.size 5) ⟨by simp, by simp [go_sem]⟩).add (f := .free W.heap.size 4) ⟨by simp, by simp [go_sem]⟩).add (f := .free W.heap.size 3) ⟨by simp, by simp [go_sem]⟩).add (f := .free W.heap.size 2) ⟨by simp, by simp [go_sem]⟩).add (f := .free W.heap.size 1) ⟨by simp, by simp [go_sem]⟩).add (f := .free W.heap.size 0) ⟨by simp, by simp [go_sem]⟩).add (f := .cell W.heap.size 14 x14) (by simp [Fact.at, World.cell?_alloc_new])).add (f := .cell W.heap.size 13 x13) (by simp [Fact.at, World.cell?_alloc_new])).add (f := .cell W.heap.size 12 x12) (by simp [Fact.at, World.cell?_alloc_new])).add (f := .cell W.heap.size 11 x11) (by simp [Fact.at, World.cell?_alloc_new])).add (f := .cell W.heap.size 10 x10) (by simp [Fact.at, World.cell?_alloc_new])).add (f := .cell W.heap.size 9 x9) (by simp [Fact.at, World.cell?_alloc_new])).add (f := .cell W.heap.size 8 x8) (by simp [Fact.at, World.cell?_alloc_new])).add (f := .cell W.heap.size 7 x7) (by simp [Fact.at, World.cell?_alloc_new])).add (f := .cell W.heap.size 6 x6) (by simp [Fact.at, World.cell?_alloc_new])).add (f := .cell W.heap.size 5 x5) (by simp [Fact.at, World.cell?_alloc_new])).add (f := .cell W.heap.size 4 x4) (by simp [Fact.at, World.cell?_alloc_new])).add (f := .cell W.heap.size 3 x3) (by simp [Fact.at, World.cell?_alloc_new])).add (f := .cell W.heap.size 2 x2) (by simp [Fact.at, World.cell?_alloc_new])).add (f := .cell W.heap.size 1 x1) (by simp [Fact.at, World.cell?_alloc_new])).add (f := .cell W.heap.size 0 x0) (by simp [Fact.at, World.cell?_alloc_new])
/-- Steps hang on the days, the months, the way round and the ends that stay alone. -/
theorem Tm.Walk.turn {t s : Tm} {X E : Nat → Int} {m : Nat} (h : t.Walk X E m) (h1 : s.st = t.st) (h2 : s.en = t.en) (h3 : s.ms = t.ms) (h4 : s.bk = t.bk) (h5 : s.eo = t.eo) : s.Walk X E m := by
  have ea : s.an = t.an := by unfold Tm.an; rw [h1, h2, h4]
  have ep : s.ap = t.ap := by unfold Tm.ap; rw [h3, h4]
  refine ⟨fun k => ?_, h.x0.trans ea.symm, h.e0, h.one, h.top, fun k a b => ?_, h.code, fun e => ?_, h.day, fun b => h.up (h4 ▸ b), fun b => h.down (h4 ▸ b)⟩
  · rw [ea, ep, h5]; exact h.mv k
  · rw [h1, h2]; exact h.mid k a b
  · rw [h1, h2]; exact h.last e
theorem move_free {n k r e : Int} {b b' : Bool} (h : MoveIs n k b r e) (hl : LastIs n false) : MoveIs n k b' r e := by
  rcases h with ⟨y, m, d, Y, M, a1, a2, a3, a4, a5, a6, a7, a8, a9⟩ | h | h
  · rcases hl with ⟨y', m', d', c1, c2, c3⟩ | ⟨c1, -⟩
    · obtain ⟨rfl, rfl, rfl⟩ := nb_inj y m d y' m' d' a1 c1 (a2.trans c2.symm)
      have hd : ¬ d = ln y m := of_decide_eq_false c3.symm
      refine Or.inl ⟨y, m, d, Y, M, a1, a2, a3, a4, a5, a6, a7, ?_, a9⟩
      rw [← a8]
      congr 1
      unfold dm
      rw [if_neg (fun g => hd g.2), if_neg (fun g => hd g.2)]
    · have := nb_bd y m d a1
      omega
  · exact Or.inr (Or.inl h)
  · exact Or.inr (Or.inr h)
/-- .. and where the anchor is no month's end, not on these. -/
theorem Tm.Walk.free {t s : Tm} {X E : Nat → Int} {m : Nat} (h : t.Walk X E m) (h1 : s.st = t.st) (h2 : s.en = t.en) (h3 : s.ms = t.ms) (h4 : s.bk = t.bk) (hl : LastIs t.an false) : s.Walk X E m := by
  have ea : s.an = t.an := by unfold Tm.an; rw [h1, h2, h4]
  have ep : s.ap = t.ap := by unfold Tm.ap; rw [h3, h4]
  refine ⟨fun k => ?_, h.x0.trans ea.symm, h.e0, h.one, h.top, fun k a b => ?_, h.code, fun e => ?_, h.day, fun b => h.up (h4 ▸ b), fun b => h.down (h4 ▸ b)⟩
  · rw [ea, ep]; exact move_free (h.mv k) hl
  · rw [h1, h2]; exact h.mid k a b
  · rw [h1, h2]; exact h.last e
theorem dturn_no (mo ra ki co st en ms : Int) (bk lg eo : Bool) (ro : Int) (k c y o : Int) (z : Int) (w : World) (hL : FactsT w) (hc : (Tm.mk mo ra ki co st en ms bk lg eo ro).code = z) (h0 : z ≠ 0) : Calls Tryz.prog 8 #[.agg #[.int .i64 mo, .int .i64 ra, .int .i64 ki, .int .i64 co, .int .i64 st, .int .i64 en, .int .i64 ms, .bool bk, .bool lg, .bool eo, .int .i64 ro, .int .u8 k, .int .u8 c, .int .u8 y, .int .u16 o]] w fun e w' => e = .returned (.bool true) ∧ Below w.heap.size w w' := by
  have H := (Held.start w).add (f := factsTF) hL
  have CK := Lib.hid (fun v => rcheck15 mo ra ki co st en ms bk lg eo ro z v hc)
  have CN : Hid ((z != 0) = true) := Lib.hid (by simpa using h0)
  have CE : Hid ((z == 0) = false) := Lib.hid (by simpa using h0)
  clear hc
  clear hL
  go_enter Tryz.func8, Tryz.ntmps8
  go_wp2_with fail
  replace H := H.box_15 (w.heap.size) (.int .i64 mo) (.int .i64 ra) (.int .i64 ki) (.int .i64 co) (.int .i64 st) (.int .i64 en) (.int .i64 ms) (.bool bk) (.bool lg) (.bool eo) (.int .i64 ro) (.int .u8 k) (.int .u8 c) (.int .u8 y) (.int .u16 o) 47 rfl
  replace H := H.box_11 (w.heap.size + 1) (.int .i64 mo) (.int .i64 ra) (.int .i64 ki) (.int .i64 co) (.int .i64 st) (.int .i64 en) (.int .i64 ms) (.bool bk) (.bool lg) (.bool eo) (.int .i64 ro) 23 (by simp)
  (with_reducible refine (dshown_any _ (H.factsT (by repeat (first | with_reducible exact List.mem_cons_self | with_reducible apply List.mem_cons_of_mem)))).mono ?_)
  rintro e w1 ⟨rfl, hb⟩
  replace H := H.below hb
  clear hb
  have ct0 := H.cell (w.heap.size + 1) 0 (.int .i64 mo) (by repeat (first | with_reducible exact List.mem_cons_self | with_reducible apply List.mem_cons_of_mem))
  have ct1 := H.cell (w.heap.size + 1) 1 (.int .i64 ra) (by repeat (first | with_reducible exact List.mem_cons_self | with_reducible apply List.mem_cons_of_mem))
  have ct2 := H.cell (w.heap.size + 1) 2 (.int .i64 ki) (by repeat (first | with_reducible exact List.mem_cons_self | with_reducible apply List.mem_cons_of_mem))
  have ct3 := H.cell (w.heap.size + 1) 3 (.int .i64 co) (by repeat (first | with_reducible exact List.mem_cons_self | with_reducible apply List.mem_cons_of_mem))
  have ct4 := H.cell (w.heap.size + 1) 4 (.int .i64 st) (by repeat (first | with_reducible exact List.mem_cons_self | with_reducible apply List.mem_cons_of_mem))
  have ct5 := H.cell (w.heap.size + 1) 5 (.int .i64 en) (by repeat (first | with_reducible exact List.mem_cons_self | with_reducible apply List.mem_cons_of_mem))
  have ct6 := H.cell (w.heap.size + 1) 6 (.int .i64 ms) (by repeat (first | with_reducible exact List.mem_cons_self | with_reducible apply List.mem_cons_of_mem))
  have ct7 := H.cell (w.heap.size + 1) 7 (.bool bk) (by repeat (first | with_reducible exact List.mem_cons_self | with_reducible apply List.mem_cons_of_mem))
  have ct8 := H.cell (w.heap.size + 1) 8 (.bool lg) (by repeat (first | with_reducible exact List.mem_cons_self | with_reducible apply List.mem_cons_of_mem))
  have ct9 := H.cell (w.heap.size + 1) 9 (.bool eo) (by repeat (first | with_reducible exact List.mem_cons_self | with_reducible apply List.mem_cons_of_mem))
  have ct10 := H.cell (w.heap.size + 1) 10 (.int .i64 ro) (by repeat (first | with_reducible exact List.mem_cons_self | with_reducible apply List.mem_cons_of_mem))
  have lt := cell_lt ct0
  go_wp2_with fail
  clear ct0 ct1 ct2 ct3 ct4 ct5 ct6 ct7 ct8 ct9 ct10 lt
  (with_reducible refine (CK.out _).mono ?_)
  rintro e w2 ⟨rfl, hb⟩
  replace H := H.below hb
  clear hb
  have cn := CN.out
  have ce := CE.out
  go_wp2
  go_ret
  exact ⟨rfl, H.old⟩
theorem dturn_far (mo ra ki co st en ms : Int) (bk lg eo : Bool) (ro : Int) (k c y o : Int) (w : World) (hL : FactsT w) (hc : (Tm.mk mo ra ki co st en ms bk lg eo ro).code = 0) (hs : 3100 < en - st) : Calls Tryz.prog 8 #[.agg #[.int .i64 mo, .int .i64 ra, .int .i64 ki, .int .i64 co, .int .i64 st, .int .i64 en, .int .i64 ms, .bool bk, .bool lg, .bool eo, .int .i64 ro, .int .u8 k, .int .u8 c, .int .u8 y, .int .u16 o]] w fun e w' => e = .returned (.bool true) ∧ Below w.heap.size w w' := by
  have H := (Held.start w).add (f := factsTF) hL
  have CK := Lib.hid (fun v => rcheck15 mo ra ki co st en ms bk lg eo ro 0 v hc)
  obtain ⟨hf, hd, ho, -, -⟩ := Tm.of_zero hc
  have SHT := Lib.hid (fun v => short_any mo ra ki co st en ms bk lg eo ro 100 false v hd.1 hd.2 ho (by omega) (decide_eq_false (by omega)))
  clear hc hf hd ho hs
  clear hL
  go_enter Tryz.func8, Tryz.ntmps8
  go_wp2_with fail
  replace H := H.box_15 (w.heap.size) (.int .i64 mo) (.int .i64 ra) (.int .i64 ki) (.int .i64 co) (.int .i64 st) (.int .i64 en) (.int .i64 ms) (.bool bk) (.bool lg) (.bool eo) (.int .i64 ro) (.int .u8 k) (.int .u8 c) (.int .u8 y) (.int .u16 o) 47 rfl
  replace H := H.box_11 (w.heap.size + 1) (.int .i64 mo) (.int .i64 ra) (.int .i64 ki) (.int .i64 co) (.int .i64 st) (.int .i64 en) (.int .i64 ms) (.bool bk) (.bool lg) (.bool eo) (.int .i64 ro) 23 (by simp)
  (with_reducible refine (dshown_any _ (H.factsT (by repeat (first | with_reducible exact List.mem_cons_self | with_reducible apply List.mem_cons_of_mem)))).mono ?_)
  rintro e w1 ⟨rfl, hb⟩
  replace H := H.below hb
  clear hb
  have ct0 := H.cell (w.heap.size + 1) 0 (.int .i64 mo) (by repeat (first | with_reducible exact List.mem_cons_self | with_reducible apply List.mem_cons_of_mem))
  have ct1 := H.cell (w.heap.size + 1) 1 (.int .i64 ra) (by repeat (first | with_reducible exact List.mem_cons_self | with_reducible apply List.mem_cons_of_mem))
  have ct2 := H.cell (w.heap.size + 1) 2 (.int .i64 ki) (by repeat (first | with_reducible exact List.mem_cons_self | with_reducible apply List.mem_cons_of_mem))
  have ct3 := H.cell (w.heap.size + 1) 3 (.int .i64 co) (by repeat (first | with_reducible exact List.mem_cons_self | with_reducible apply List.mem_cons_of_mem))
  have ct4 := H.cell (w.heap.size + 1) 4 (.int .i64 st) (by repeat (first | with_reducible exact List.mem_cons_self | with_reducible apply List.mem_cons_of_mem))
  have ct5 := H.cell (w.heap.size + 1) 5 (.int .i64 en) (by repeat (first | with_reducible exact List.mem_cons_self | with_reducible apply List.mem_cons_of_mem))
  have ct6 := H.cell (w.heap.size + 1) 6 (.int .i64 ms) (by repeat (first | with_reducible exact List.mem_cons_self | with_reducible apply List.mem_cons_of_mem))
  have ct7 := H.cell (w.heap.size + 1) 7 (.bool bk) (by repeat (first | with_reducible exact List.mem_cons_self | with_reducible apply List.mem_cons_of_mem))
  have ct8 := H.cell (w.heap.size + 1) 8 (.bool lg) (by repeat (first | with_reducible exact List.mem_cons_self | with_reducible apply List.mem_cons_of_mem))
  have ct9 := H.cell (w.heap.size + 1) 9 (.bool eo) (by repeat (first | with_reducible exact List.mem_cons_self | with_reducible apply List.mem_cons_of_mem))
  have ct10 := H.cell (w.heap.size + 1) 10 (.int .i64 ro) (by repeat (first | with_reducible exact List.mem_cons_self | with_reducible apply List.mem_cons_of_mem))
  have lt := cell_lt ct0
  go_wp2_with fail
  clear ct0 ct1 ct2 ct3 ct4 ct5 ct6 ct7 ct8 ct9 ct10 lt
  (with_reducible refine (CK.out _).mono ?_)
  rintro e w2 ⟨rfl, hb⟩
  replace H := H.below hb
  clear hb
  have ct0 := H.cell (w.heap.size + 1) 0 (.int .i64 mo) (by repeat (first | with_reducible exact List.mem_cons_self | with_reducible apply List.mem_cons_of_mem))
  have ct1 := H.cell (w.heap.size + 1) 1 (.int .i64 ra) (by repeat (first | with_reducible exact List.mem_cons_self | with_reducible apply List.mem_cons_of_mem))
  have ct2 := H.cell (w.heap.size + 1) 2 (.int .i64 ki) (by repeat (first | with_reducible exact List.mem_cons_self | with_reducible apply List.mem_cons_of_mem))
  have ct3 := H.cell (w.heap.size + 1) 3 (.int .i64 co) (by repeat (first | with_reducible exact List.mem_cons_self | with_reducible apply List.mem_cons_of_mem))
  have ct4 := H.cell (w.heap.size + 1) 4 (.int .i64 st) (by repeat (first | with_reducible exact List.mem_cons_self | with_reducible apply List.mem_cons_of_mem))
  have ct5 := H.cell (w.heap.size + 1) 5 (.int .i64 en) (by repeat (first | with_reducible exact List.mem_cons_self | with_reducible apply List.mem_cons_of_mem))
  have ct6 := H.cell (w.heap.size + 1) 6 (.int .i64 ms) (by repeat (first | with_reducible exact List.mem_cons_self | with_reducible apply List.mem_cons_of_mem))
  have ct7 := H.cell (w.heap.size + 1) 7 (.bool bk) (by repeat (first | with_reducible exact List.mem_cons_self | with_reducible apply List.mem_cons_of_mem))
  have ct8 := H.cell (w.heap.size + 1) 8 (.bool lg) (by repeat (first | with_reducible exact List.mem_cons_self | with_reducible apply List.mem_cons_of_mem))
  have ct9 := H.cell (w.heap.size + 1) 9 (.bool eo) (by repeat (first | with_reducible exact List.mem_cons_self | with_reducible apply List.mem_cons_of_mem))
  have ct10 := H.cell (w.heap.size + 1) 10 (.int .i64 ro) (by repeat (first | with_reducible exact List.mem_cons_self | with_reducible apply List.mem_cons_of_mem))
  have lt := cell_lt ct0
  go_wp2_with fail
  clear ct0 ct1 ct2 ct3 ct4 ct5 ct6 ct7 ct8 ct9 ct10 lt
  (with_reducible refine (SHT.out _).mono ?_)
  rintro e w3 ⟨rfl, hb⟩
  replace H := H.below hb
  clear hb
  go_wp2
  go_ret
  exact ⟨rfl, H.old⟩
set_option maxHeartbeats 8000000 in
set_option maxRecDepth 100000 in
theorem dturn_false_false (mo ra ki co st en ms : Int) (lg eo : Bool) (ro : Int) (k c y o : Int) (w : World) (hL : FactsT w) (hc : (Tm.mk mo ra ki co st en ms false lg eo ro).code = 0) (hs : en - st ≤ 3100) (hl : LastIs st false) (b1 : 0 ≤ k ∧ k < 256) (b2 : 0 ≤ c ∧ c < 256) (b3 : 0 ≤ y ∧ y < 256) (b4 : 0 ≤ o ∧ o < 65536) : Calls Tryz.prog 8 #[.agg #[.int .i64 mo, .int .i64 ra, .int .i64 ki, .int .i64 co, .int .i64 st, .int .i64 en, .int .i64 ms, .bool false, .bool lg, .bool eo, .int .i64 ro, .int .u8 k, .int .u8 c, .int .u8 y, .int .u16 o]] w fun e w' => e = .returned (.bool true) ∧ Below w.heap.size w w' := by
  have H := (Held.start w).add (f := factsTF) hL
  have CK := Lib.hid (fun v => rcheck15 mo ra ki co st en ms false lg eo ro 0 v hc)
  obtain ⟨hf, hd, ho, how, hpr⟩ := Tm.of_zero hc
  have mb : 1 ≤ ms ∧ ms ≤ 12 := mo_bd hf.2.2.2
  have SHT := Lib.hid (fun v => short_any mo ra ki co st en ms false lg eo ro 100 true v hd.1 hd.2 ho (by omega) (decide_eq_true (by omega)))
  obtain ⟨X, E, m, hWk⟩ := Tm.walk (Tm.mk mo ra ki co st en ms false lg eo ro) hc (by show en - st ≤ 30000; omega)
  obtain ⟨D, hD⟩ : ∃ D, (Tm.mk mo ra ki co st en ms false lg eo ro).days ((Tm.mk mo ra ki co st en ms false lg eo ro).grid X (gl E m)) = D := ⟨_, rfl⟩
  have D1 : D.length ≤ 1103 := by
    rw [← hD, Tm.days_len]
    have := Tm.kept_len (Tm.mk mo ra ki co st en ms false lg eo ro) ((Tm.mk mo ra ki co st en ms false lg eo ro).grid X (gl E m))
    rw [Tm.grid_len] at this
    have := (gl_bd E m).2
    have := hWk.top
    omega
  obtain ⟨k3, hk3⟩ : ∃ k3, k % 3 = k3 := ⟨_, rfl⟩
  obtain ⟨c7, hc7⟩ : ∃ c7, c % 7 = c7 := ⟨_, rfl⟩
  obtain ⟨y5, hy5⟩ : ∃ y5, y % 5 = y5 := ⟨_, rfl⟩
  have cS : (Tm.mk (1 + o) o k3 c7 st en ms false lg eo y5).code = 0 := Tm.may (t := Tm.mk (1 + o) o k3 c7 st en ms false lg eo y5) ⟨⟨by show 0 ≤ k3; omega, by show k3 ≤ 2; omega⟩, ⟨by show 0 ≤ c7; omega, by show c7 ≤ 6; omega⟩, ⟨by show 0 ≤ y5; omega, by show y5 ≤ 4; omega⟩, hf.2.2.2⟩ hd ho ⟨⟨by show 1 ≤ 1 + o; omega, by show 1 + o ≤ _; omega⟩, ⟨by show 0 ≤ o; omega, by show o ≤ _; omega⟩⟩ (by
    show (1 + o) * o ≤ 9000000000000000000
    have := Int.mul_le_mul (show 1 + o ≤ 65536 by omega) (show o ≤ 65535 by omega) (by omega) (by omega)
    omega)
  have OT := Lib.hid (fun v h => of_yes mo ra ki co st en ms false lg eo ro X E m D v h hc (by omega) hWk hD)
  have OS := Lib.hid (fun v h => of_yes (1 + o) o k3 c7 st en ms false lg eo y5 X E m D v h cS (by omega) (hWk.turn rfl rfl rfl rfl rfl) hD)
  have LS := Lib.hid (fun v => rlast_any st false v hl)
  have OU := Lib.hid (fun v h => of_yes mo ra ki co st en ms false lg (!eo) ro X E m D v h hc (by omega) (hWk.free rfl rfl rfl rfl hl) hD)
  clear hc hf hd ho how hpr hs hWk hD cS hl mb
  clear hL
  go_enter Tryz.func8, Tryz.ntmps8
  go_wp2_with fail
  replace H := H.box_15 (w.heap.size) (.int .i64 mo) (.int .i64 ra) (.int .i64 ki) (.int .i64 co) (.int .i64 st) (.int .i64 en) (.int .i64 ms) (.bool false) (.bool lg) (.bool eo) (.int .i64 ro) (.int .u8 k) (.int .u8 c) (.int .u8 y) (.int .u16 o) 47 rfl
  replace H := H.box_11 (w.heap.size + 1) (.int .i64 mo) (.int .i64 ra) (.int .i64 ki) (.int .i64 co) (.int .i64 st) (.int .i64 en) (.int .i64 ms) (.bool false) (.bool lg) (.bool eo) (.int .i64 ro) 23 (by simp)
  (with_reducible refine (dshown_any _ (H.factsT (by repeat (first | with_reducible exact List.mem_cons_self | with_reducible apply List.mem_cons_of_mem)))).mono ?_)
  rintro e w1 ⟨rfl, hb⟩
  replace H := H.below hb
  clear hb
  have ct0 := H.cell (w.heap.size + 1) 0 (.int .i64 mo) (by repeat (first | with_reducible exact List.mem_cons_self | with_reducible apply List.mem_cons_of_mem))
  have ct1 := H.cell (w.heap.size + 1) 1 (.int .i64 ra) (by repeat (first | with_reducible exact List.mem_cons_self | with_reducible apply List.mem_cons_of_mem))
  have ct2 := H.cell (w.heap.size + 1) 2 (.int .i64 ki) (by repeat (first | with_reducible exact List.mem_cons_self | with_reducible apply List.mem_cons_of_mem))
  have ct3 := H.cell (w.heap.size + 1) 3 (.int .i64 co) (by repeat (first | with_reducible exact List.mem_cons_self | with_reducible apply List.mem_cons_of_mem))
  have ct4 := H.cell (w.heap.size + 1) 4 (.int .i64 st) (by repeat (first | with_reducible exact List.mem_cons_self | with_reducible apply List.mem_cons_of_mem))
  have ct5 := H.cell (w.heap.size + 1) 5 (.int .i64 en) (by repeat (first | with_reducible exact List.mem_cons_self | with_reducible apply List.mem_cons_of_mem))
  have ct6 := H.cell (w.heap.size + 1) 6 (.int .i64 ms) (by repeat (first | with_reducible exact List.mem_cons_self | with_reducible apply List.mem_cons_of_mem))
  have ct7 := H.cell (w.heap.size + 1) 7 (.bool false) (by repeat (first | with_reducible exact List.mem_cons_self | with_reducible apply List.mem_cons_of_mem))
  have ct8 := H.cell (w.heap.size + 1) 8 (.bool lg) (by repeat (first | with_reducible exact List.mem_cons_self | with_reducible apply List.mem_cons_of_mem))
  have ct9 := H.cell (w.heap.size + 1) 9 (.bool eo) (by repeat (first | with_reducible exact List.mem_cons_self | with_reducible apply List.mem_cons_of_mem))
  have ct10 := H.cell (w.heap.size + 1) 10 (.int .i64 ro) (by repeat (first | with_reducible exact List.mem_cons_self | with_reducible apply List.mem_cons_of_mem))
  have lt := cell_lt ct0
  go_wp2_with fail
  clear ct0 ct1 ct2 ct3 ct4 ct5 ct6 ct7 ct8 ct9 ct10 lt
  (with_reducible refine (CK.out _).mono ?_)
  rintro e w2 ⟨rfl, hb⟩
  replace H := H.below hb
  clear hb
  have ct0 := H.cell (w.heap.size + 1) 0 (.int .i64 mo) (by repeat (first | with_reducible exact List.mem_cons_self | with_reducible apply List.mem_cons_of_mem))
  have ct1 := H.cell (w.heap.size + 1) 1 (.int .i64 ra) (by repeat (first | with_reducible exact List.mem_cons_self | with_reducible apply List.mem_cons_of_mem))
  have ct2 := H.cell (w.heap.size + 1) 2 (.int .i64 ki) (by repeat (first | with_reducible exact List.mem_cons_self | with_reducible apply List.mem_cons_of_mem))
  have ct3 := H.cell (w.heap.size + 1) 3 (.int .i64 co) (by repeat (first | with_reducible exact List.mem_cons_self | with_reducible apply List.mem_cons_of_mem))
  have ct4 := H.cell (w.heap.size + 1) 4 (.int .i64 st) (by repeat (first | with_reducible exact List.mem_cons_self | with_reducible apply List.mem_cons_of_mem))
  have ct5 := H.cell (w.heap.size + 1) 5 (.int .i64 en) (by repeat (first | with_reducible exact List.mem_cons_self | with_reducible apply List.mem_cons_of_mem))
  have ct6 := H.cell (w.heap.size + 1) 6 (.int .i64 ms) (by repeat (first | with_reducible exact List.mem_cons_self | with_reducible apply List.mem_cons_of_mem))
  have ct7 := H.cell (w.heap.size + 1) 7 (.bool false) (by repeat (first | with_reducible exact List.mem_cons_self | with_reducible apply List.mem_cons_of_mem))
  have ct8 := H.cell (w.heap.size + 1) 8 (.bool lg) (by repeat (first | with_reducible exact List.mem_cons_self | with_reducible apply List.mem_cons_of_mem))
  have ct9 := H.cell (w.heap.size + 1) 9 (.bool eo) (by repeat (first | with_reducible exact List.mem_cons_self | with_reducible apply List.mem_cons_of_mem))
  have ct10 := H.cell (w.heap.size + 1) 10 (.int .i64 ro) (by repeat (first | with_reducible exact List.mem_cons_self | with_reducible apply List.mem_cons_of_mem))
  have lt := cell_lt ct0
  go_wp2_with fail
  clear ct0 ct1 ct2 ct3 ct4 ct5 ct6 ct7 ct8 ct9 ct10 lt
  (with_reducible refine (SHT.out _).mono ?_)
  rintro e w3 ⟨rfl, hb⟩
  replace H := H.below hb
  clear hb
  have ct0 := H.cell (w.heap.size + 1) 0 (.int .i64 mo) (by repeat (first | with_reducible exact List.mem_cons_self | with_reducible apply List.mem_cons_of_mem))
  have ct1 := H.cell (w.heap.size + 1) 1 (.int .i64 ra) (by repeat (first | with_reducible exact List.mem_cons_self | with_reducible apply List.mem_cons_of_mem))
  have ct2 := H.cell (w.heap.size + 1) 2 (.int .i64 ki) (by repeat (first | with_reducible exact List.mem_cons_self | with_reducible apply List.mem_cons_of_mem))
  have ct3 := H.cell (w.heap.size + 1) 3 (.int .i64 co) (by repeat (first | with_reducible exact List.mem_cons_self | with_reducible apply List.mem_cons_of_mem))
  have ct4 := H.cell (w.heap.size + 1) 4 (.int .i64 st) (by repeat (first | with_reducible exact List.mem_cons_self | with_reducible apply List.mem_cons_of_mem))
  have ct5 := H.cell (w.heap.size + 1) 5 (.int .i64 en) (by repeat (first | with_reducible exact List.mem_cons_self | with_reducible apply List.mem_cons_of_mem))
  have ct6 := H.cell (w.heap.size + 1) 6 (.int .i64 ms) (by repeat (first | with_reducible exact List.mem_cons_self | with_reducible apply List.mem_cons_of_mem))
  have ct7 := H.cell (w.heap.size + 1) 7 (.bool false) (by repeat (first | with_reducible exact List.mem_cons_self | with_reducible apply List.mem_cons_of_mem))
  have ct8 := H.cell (w.heap.size + 1) 8 (.bool lg) (by repeat (first | with_reducible exact List.mem_cons_self | with_reducible apply List.mem_cons_of_mem))
  have ct9 := H.cell (w.heap.size + 1) 9 (.bool eo) (by repeat (first | with_reducible exact List.mem_cons_self | with_reducible apply List.mem_cons_of_mem))
  have ct10 := H.cell (w.heap.size + 1) 10 (.int .i64 ro) (by repeat (first | with_reducible exact List.mem_cons_self | with_reducible apply List.mem_cons_of_mem))
  have lt := cell_lt ct0
  go_wp2_with fail
  clear ct0 ct1 ct2 ct3 ct4 ct5 ct6 ct7 ct8 ct9 ct10 lt
  (with_reducible refine (OT.out _ (H.factsT (by repeat (first | with_reducible exact List.mem_cons_self | with_reducible apply List.mem_cons_of_mem)))).mono ?_)
  rintro e w4 ⟨aA, cA, rfl, hd, hb⟩
  replace H := (H.below hb).add (f := daysF aA (ld D) D.length cA) hd
  clear hb hd
  have ct0 := H.cell (w.heap.size + 1) 0 (.int .i64 mo) (by repeat (first | with_reducible exact List.mem_cons_self | with_reducible apply List.mem_cons_of_mem))
  have ct1 := H.cell (w.heap.size + 1) 1 (.int .i64 ra) (by repeat (first | with_reducible exact List.mem_cons_self | with_reducible apply List.mem_cons_of_mem))
  have ct2 := H.cell (w.heap.size + 1) 2 (.int .i64 ki) (by repeat (first | with_reducible exact List.mem_cons_self | with_reducible apply List.mem_cons_of_mem))
  have ct3 := H.cell (w.heap.size + 1) 3 (.int .i64 co) (by repeat (first | with_reducible exact List.mem_cons_self | with_reducible apply List.mem_cons_of_mem))
  have ct4 := H.cell (w.heap.size + 1) 4 (.int .i64 st) (by repeat (first | with_reducible exact List.mem_cons_self | with_reducible apply List.mem_cons_of_mem))
  have ct5 := H.cell (w.heap.size + 1) 5 (.int .i64 en) (by repeat (first | with_reducible exact List.mem_cons_self | with_reducible apply List.mem_cons_of_mem))
  have ct6 := H.cell (w.heap.size + 1) 6 (.int .i64 ms) (by repeat (first | with_reducible exact List.mem_cons_self | with_reducible apply List.mem_cons_of_mem))
  have ct7 := H.cell (w.heap.size + 1) 7 (.bool false) (by repeat (first | with_reducible exact List.mem_cons_self | with_reducible apply List.mem_cons_of_mem))
  have ct8 := H.cell (w.heap.size + 1) 8 (.bool lg) (by repeat (first | with_reducible exact List.mem_cons_self | with_reducible apply List.mem_cons_of_mem))
  have ct9 := H.cell (w.heap.size + 1) 9 (.bool eo) (by repeat (first | with_reducible exact List.mem_cons_self | with_reducible apply List.mem_cons_of_mem))
  have ct10 := H.cell (w.heap.size + 1) 10 (.int .i64 ro) (by repeat (first | with_reducible exact List.mem_cons_self | with_reducible apply List.mem_cons_of_mem))
  have lt := cell_lt ct0
  go_wp2_with fail
  clear ct0 ct1 ct2 ct3 ct4 ct5 ct6 ct7 ct8 ct9 ct10 lt
  replace H := H.box_11 (w4.heap.size) (.int .i64 (1 + o)) (.int .i64 o) (.int .i64 k3) (.int .i64 c7) (.int .i64 st) (.int .i64 en) (.int .i64 ms) (.bool false) (.bool lg) (.bool eo) (.int .i64 y5) 23 rfl
  (with_reducible refine (OS.out _ (H.factsT (by repeat (first | with_reducible exact List.mem_cons_self | with_reducible apply List.mem_cons_of_mem)))).mono ?_)
  rintro e w5 ⟨aB, cB, rfl, hd, hb⟩
  replace H := (H.below hb).add (f := daysF aB (ld D) D.length cB) hd
  clear hb hd
  have ct0 := H.cell (w.heap.size + 1) 0 (.int .i64 mo) (by repeat (first | with_reducible exact List.mem_cons_self | with_reducible apply List.mem_cons_of_mem))
  have ct1 := H.cell (w.heap.size + 1) 1 (.int .i64 ra) (by repeat (first | with_reducible exact List.mem_cons_self | with_reducible apply List.mem_cons_of_mem))
  have ct2 := H.cell (w.heap.size + 1) 2 (.int .i64 ki) (by repeat (first | with_reducible exact List.mem_cons_self | with_reducible apply List.mem_cons_of_mem))
  have ct3 := H.cell (w.heap.size + 1) 3 (.int .i64 co) (by repeat (first | with_reducible exact List.mem_cons_self | with_reducible apply List.mem_cons_of_mem))
  have ct4 := H.cell (w.heap.size + 1) 4 (.int .i64 st) (by repeat (first | with_reducible exact List.mem_cons_self | with_reducible apply List.mem_cons_of_mem))
  have ct5 := H.cell (w.heap.size + 1) 5 (.int .i64 en) (by repeat (first | with_reducible exact List.mem_cons_self | with_reducible apply List.mem_cons_of_mem))
  have ct6 := H.cell (w.heap.size + 1) 6 (.int .i64 ms) (by repeat (first | with_reducible exact List.mem_cons_self | with_reducible apply List.mem_cons_of_mem))
  have ct7 := H.cell (w.heap.size + 1) 7 (.bool false) (by repeat (first | with_reducible exact List.mem_cons_self | with_reducible apply List.mem_cons_of_mem))
  have ct8 := H.cell (w.heap.size + 1) 8 (.bool lg) (by repeat (first | with_reducible exact List.mem_cons_self | with_reducible apply List.mem_cons_of_mem))
  have ct9 := H.cell (w.heap.size + 1) 9 (.bool eo) (by repeat (first | with_reducible exact List.mem_cons_self | with_reducible apply List.mem_cons_of_mem))
  have ct10 := H.cell (w.heap.size + 1) 10 (.int .i64 ro) (by repeat (first | with_reducible exact List.mem_cons_self | with_reducible apply List.mem_cons_of_mem))
  have lt := cell_lt ct0
  go_wp2_with fail
  clear ct0 ct1 ct2 ct3 ct4 ct5 ct6 ct7 ct8 ct9 ct10 lt
  replace H := H.box_11 (w5.heap.size) (.int .i64 mo) (.int .i64 ra) (.int .i64 ki) (.int .i64 co) (.int .i64 st) (.int .i64 en) (.int .i64 ms) (.bool false) (.bool lg) (.bool (!eo)) (.int .i64 ro) 23 rfl
  (with_reducible refine (OU.out _ (H.factsT (by repeat (first | with_reducible exact List.mem_cons_self | with_reducible apply List.mem_cons_of_mem)))).mono ?_)
  rintro e w6 ⟨aC, cC, rfl, hd, hb⟩
  replace H := (H.below hb).add (f := daysF aC (ld D) D.length cC) hd
  clear hb hd
  have ct0 := H.cell (w.heap.size + 1) 0 (.int .i64 mo) (by repeat (first | with_reducible exact List.mem_cons_self | with_reducible apply List.mem_cons_of_mem))
  have ct1 := H.cell (w.heap.size + 1) 1 (.int .i64 ra) (by repeat (first | with_reducible exact List.mem_cons_self | with_reducible apply List.mem_cons_of_mem))
  have ct2 := H.cell (w.heap.size + 1) 2 (.int .i64 ki) (by repeat (first | with_reducible exact List.mem_cons_self | with_reducible apply List.mem_cons_of_mem))
  have ct3 := H.cell (w.heap.size + 1) 3 (.int .i64 co) (by repeat (first | with_reducible exact List.mem_cons_self | with_reducible apply List.mem_cons_of_mem))
  have ct4 := H.cell (w.heap.size + 1) 4 (.int .i64 st) (by repeat (first | with_reducible exact List.mem_cons_self | with_reducible apply List.mem_cons_of_mem))
  have ct5 := H.cell (w.heap.size + 1) 5 (.int .i64 en) (by repeat (first | with_reducible exact List.mem_cons_self | with_reducible apply List.mem_cons_of_mem))
  have ct6 := H.cell (w.heap.size + 1) 6 (.int .i64 ms) (by repeat (first | with_reducible exact List.mem_cons_self | with_reducible apply List.mem_cons_of_mem))
  have ct7 := H.cell (w.heap.size + 1) 7 (.bool false) (by repeat (first | with_reducible exact List.mem_cons_self | with_reducible apply List.mem_cons_of_mem))
  have ct8 := H.cell (w.heap.size + 1) 8 (.bool lg) (by repeat (first | with_reducible exact List.mem_cons_self | with_reducible apply List.mem_cons_of_mem))
  have ct9 := H.cell (w.heap.size + 1) 9 (.bool eo) (by repeat (first | with_reducible exact List.mem_cons_self | with_reducible apply List.mem_cons_of_mem))
  have ct10 := H.cell (w.heap.size + 1) 10 (.int .i64 ro) (by repeat (first | with_reducible exact List.mem_cons_self | with_reducible apply List.mem_cons_of_mem))
  have lt := cell_lt ct0
  go_wp2_with fail
  clear ct0 ct1 ct2 ct3 ct4 ct5 ct6 ct7 ct8 ct9 ct10 lt
  (with_reducible refine (LS.out _).mono ?_)
  rintro e w7 ⟨rfl, hb⟩
  replace H := H.below hb
  clear hb
  go_wp2_with fail
  (with_reducible refine (rrow_yes aA D.length cA (ld D) aB cB (ld D) _ (by omega) (H.days (ao := aA) (X := ld D) (n := D.length) (cap := cA) (by repeat (first | with_reducible exact List.mem_cons_self | with_reducible apply List.mem_cons_of_mem))) (H.days (ao := aB) (X := ld D) (n := D.length) (cap := cB) (by repeat (first | with_reducible exact List.mem_cons_self | with_reducible apply List.mem_cons_of_mem))) (fun _ _ => rfl)).mono ?_)
  rintro e w8 ⟨rfl, hb⟩
  replace H := H.below hb
  clear hb
  go_wp2_with fail
  (with_reducible refine (rrow_yes aA D.length cA (ld D) aC cC (ld D) _ (by omega) (H.days (ao := aA) (X := ld D) (n := D.length) (cap := cA) (by repeat (first | with_reducible exact List.mem_cons_self | with_reducible apply List.mem_cons_of_mem))) (H.days (ao := aC) (X := ld D) (n := D.length) (cap := cC) (by repeat (first | with_reducible exact List.mem_cons_self | with_reducible apply List.mem_cons_of_mem))) (fun _ _ => rfl)).mono ?_)
  rintro e w9 ⟨rfl, hb⟩
  replace H := H.below hb
  clear hb
  go_wp2
  go_ret
  exact ⟨rfl, H.old⟩
set_option maxHeartbeats 8000000 in
set_option maxRecDepth 100000 in
theorem dturn_false_true (mo ra ki co st en ms : Int) (lg eo : Bool) (ro : Int) (k c y o : Int) (w : World) (hL : FactsT w) (hc : (Tm.mk mo ra ki co st en ms false lg eo ro).code = 0) (hs : en - st ≤ 3100) (hl : LastIs st true) (b1 : 0 ≤ k ∧ k < 256) (b2 : 0 ≤ c ∧ c < 256) (b3 : 0 ≤ y ∧ y < 256) (b4 : 0 ≤ o ∧ o < 65536) : Calls Tryz.prog 8 #[.agg #[.int .i64 mo, .int .i64 ra, .int .i64 ki, .int .i64 co, .int .i64 st, .int .i64 en, .int .i64 ms, .bool false, .bool lg, .bool eo, .int .i64 ro, .int .u8 k, .int .u8 c, .int .u8 y, .int .u16 o]] w fun e w' => e = .returned (.bool true) ∧ Below w.heap.size w w' := by
  have H := (Held.start w).add (f := factsTF) hL
  have CK := Lib.hid (fun v => rcheck15 mo ra ki co st en ms false lg eo ro 0 v hc)
  obtain ⟨hf, hd, ho, how, hpr⟩ := Tm.of_zero hc
  have mb : 1 ≤ ms ∧ ms ≤ 12 := mo_bd hf.2.2.2
  have SHT := Lib.hid (fun v => short_any mo ra ki co st en ms false lg eo ro 100 true v hd.1 hd.2 ho (by omega) (decide_eq_true (by omega)))
  obtain ⟨X, E, m, hWk⟩ := Tm.walk (Tm.mk mo ra ki co st en ms false lg eo ro) hc (by show en - st ≤ 30000; omega)
  obtain ⟨D, hD⟩ : ∃ D, (Tm.mk mo ra ki co st en ms false lg eo ro).days ((Tm.mk mo ra ki co st en ms false lg eo ro).grid X (gl E m)) = D := ⟨_, rfl⟩
  have D1 : D.length ≤ 1103 := by
    rw [← hD, Tm.days_len]
    have := Tm.kept_len (Tm.mk mo ra ki co st en ms false lg eo ro) ((Tm.mk mo ra ki co st en ms false lg eo ro).grid X (gl E m))
    rw [Tm.grid_len] at this
    have := (gl_bd E m).2
    have := hWk.top
    omega
  obtain ⟨k3, hk3⟩ : ∃ k3, k % 3 = k3 := ⟨_, rfl⟩
  obtain ⟨c7, hc7⟩ : ∃ c7, c % 7 = c7 := ⟨_, rfl⟩
  obtain ⟨y5, hy5⟩ : ∃ y5, y % 5 = y5 := ⟨_, rfl⟩
  have cS : (Tm.mk (1 + o) o k3 c7 st en ms false lg eo y5).code = 0 := Tm.may (t := Tm.mk (1 + o) o k3 c7 st en ms false lg eo y5) ⟨⟨by show 0 ≤ k3; omega, by show k3 ≤ 2; omega⟩, ⟨by show 0 ≤ c7; omega, by show c7 ≤ 6; omega⟩, ⟨by show 0 ≤ y5; omega, by show y5 ≤ 4; omega⟩, hf.2.2.2⟩ hd ho ⟨⟨by show 1 ≤ 1 + o; omega, by show 1 + o ≤ _; omega⟩, ⟨by show 0 ≤ o; omega, by show o ≤ _; omega⟩⟩ (by
    show (1 + o) * o ≤ 9000000000000000000
    have := Int.mul_le_mul (show 1 + o ≤ 65536 by omega) (show o ≤ 65535 by omega) (by omega) (by omega)
    omega)
  have OT := Lib.hid (fun v h => of_yes mo ra ki co st en ms false lg eo ro X E m D v h hc (by omega) hWk hD)
  have OS := Lib.hid (fun v h => of_yes (1 + o) o k3 c7 st en ms false lg eo y5 X E m D v h cS (by omega) (hWk.turn rfl rfl rfl rfl rfl) hD)
  have LS := Lib.hid (fun v => rlast_any st true v hl)
  obtain ⟨X2, E2, m2, hWk2⟩ := Tm.walk (Tm.mk mo ra ki co st en ms false lg (!eo) ro) hc (by show en - st ≤ 30000; omega)
  obtain ⟨D2, hD2⟩ : ∃ D2, (Tm.mk mo ra ki co st en ms false lg (!eo) ro).days ((Tm.mk mo ra ki co st en ms false lg (!eo) ro).grid X2 (gl E2 m2)) = D2 := ⟨_, rfl⟩
  have OU := Lib.hid (fun v h => of_yes mo ra ki co st en ms false lg (!eo) ro X2 E2 m2 D2 v h hc (by omega) hWk2 hD2)
  clear hWk2 hD2
  clear hc hf hd ho how hpr hs hWk hD cS hl mb
  clear hL
  go_enter Tryz.func8, Tryz.ntmps8
  go_wp2_with fail
  replace H := H.box_15 (w.heap.size) (.int .i64 mo) (.int .i64 ra) (.int .i64 ki) (.int .i64 co) (.int .i64 st) (.int .i64 en) (.int .i64 ms) (.bool false) (.bool lg) (.bool eo) (.int .i64 ro) (.int .u8 k) (.int .u8 c) (.int .u8 y) (.int .u16 o) 47 rfl
  replace H := H.box_11 (w.heap.size + 1) (.int .i64 mo) (.int .i64 ra) (.int .i64 ki) (.int .i64 co) (.int .i64 st) (.int .i64 en) (.int .i64 ms) (.bool false) (.bool lg) (.bool eo) (.int .i64 ro) 23 (by simp)
  (with_reducible refine (dshown_any _ (H.factsT (by repeat (first | with_reducible exact List.mem_cons_self | with_reducible apply List.mem_cons_of_mem)))).mono ?_)
  rintro e w1 ⟨rfl, hb⟩
  replace H := H.below hb
  clear hb
  have ct0 := H.cell (w.heap.size + 1) 0 (.int .i64 mo) (by repeat (first | with_reducible exact List.mem_cons_self | with_reducible apply List.mem_cons_of_mem))
  have ct1 := H.cell (w.heap.size + 1) 1 (.int .i64 ra) (by repeat (first | with_reducible exact List.mem_cons_self | with_reducible apply List.mem_cons_of_mem))
  have ct2 := H.cell (w.heap.size + 1) 2 (.int .i64 ki) (by repeat (first | with_reducible exact List.mem_cons_self | with_reducible apply List.mem_cons_of_mem))
  have ct3 := H.cell (w.heap.size + 1) 3 (.int .i64 co) (by repeat (first | with_reducible exact List.mem_cons_self | with_reducible apply List.mem_cons_of_mem))
  have ct4 := H.cell (w.heap.size + 1) 4 (.int .i64 st) (by repeat (first | with_reducible exact List.mem_cons_self | with_reducible apply List.mem_cons_of_mem))
  have ct5 := H.cell (w.heap.size + 1) 5 (.int .i64 en) (by repeat (first | with_reducible exact List.mem_cons_self | with_reducible apply List.mem_cons_of_mem))
  have ct6 := H.cell (w.heap.size + 1) 6 (.int .i64 ms) (by repeat (first | with_reducible exact List.mem_cons_self | with_reducible apply List.mem_cons_of_mem))
  have ct7 := H.cell (w.heap.size + 1) 7 (.bool false) (by repeat (first | with_reducible exact List.mem_cons_self | with_reducible apply List.mem_cons_of_mem))
  have ct8 := H.cell (w.heap.size + 1) 8 (.bool lg) (by repeat (first | with_reducible exact List.mem_cons_self | with_reducible apply List.mem_cons_of_mem))
  have ct9 := H.cell (w.heap.size + 1) 9 (.bool eo) (by repeat (first | with_reducible exact List.mem_cons_self | with_reducible apply List.mem_cons_of_mem))
  have ct10 := H.cell (w.heap.size + 1) 10 (.int .i64 ro) (by repeat (first | with_reducible exact List.mem_cons_self | with_reducible apply List.mem_cons_of_mem))
  have lt := cell_lt ct0
  go_wp2_with fail
  clear ct0 ct1 ct2 ct3 ct4 ct5 ct6 ct7 ct8 ct9 ct10 lt
  (with_reducible refine (CK.out _).mono ?_)
  rintro e w2 ⟨rfl, hb⟩
  replace H := H.below hb
  clear hb
  have ct0 := H.cell (w.heap.size + 1) 0 (.int .i64 mo) (by repeat (first | with_reducible exact List.mem_cons_self | with_reducible apply List.mem_cons_of_mem))
  have ct1 := H.cell (w.heap.size + 1) 1 (.int .i64 ra) (by repeat (first | with_reducible exact List.mem_cons_self | with_reducible apply List.mem_cons_of_mem))
  have ct2 := H.cell (w.heap.size + 1) 2 (.int .i64 ki) (by repeat (first | with_reducible exact List.mem_cons_self | with_reducible apply List.mem_cons_of_mem))
  have ct3 := H.cell (w.heap.size + 1) 3 (.int .i64 co) (by repeat (first | with_reducible exact List.mem_cons_self | with_reducible apply List.mem_cons_of_mem))
  have ct4 := H.cell (w.heap.size + 1) 4 (.int .i64 st) (by repeat (first | with_reducible exact List.mem_cons_self | with_reducible apply List.mem_cons_of_mem))
  have ct5 := H.cell (w.heap.size + 1) 5 (.int .i64 en) (by repeat (first | with_reducible exact List.mem_cons_self | with_reducible apply List.mem_cons_of_mem))
  have ct6 := H.cell (w.heap.size + 1) 6 (.int .i64 ms) (by repeat (first | with_reducible exact List.mem_cons_self | with_reducible apply List.mem_cons_of_mem))
  have ct7 := H.cell (w.heap.size + 1) 7 (.bool false) (by repeat (first | with_reducible exact List.mem_cons_self | with_reducible apply List.mem_cons_of_mem))
  have ct8 := H.cell (w.heap.size + 1) 8 (.bool lg) (by repeat (first | with_reducible exact List.mem_cons_self | with_reducible apply List.mem_cons_of_mem))
  have ct9 := H.cell (w.heap.size + 1) 9 (.bool eo) (by repeat (first | with_reducible exact List.mem_cons_self | with_reducible apply List.mem_cons_of_mem))
  have ct10 := H.cell (w.heap.size + 1) 10 (.int .i64 ro) (by repeat (first | with_reducible exact List.mem_cons_self | with_reducible apply List.mem_cons_of_mem))
  have lt := cell_lt ct0
  go_wp2_with fail
  clear ct0 ct1 ct2 ct3 ct4 ct5 ct6 ct7 ct8 ct9 ct10 lt
  (with_reducible refine (SHT.out _).mono ?_)
  rintro e w3 ⟨rfl, hb⟩
  replace H := H.below hb
  clear hb
  have ct0 := H.cell (w.heap.size + 1) 0 (.int .i64 mo) (by repeat (first | with_reducible exact List.mem_cons_self | with_reducible apply List.mem_cons_of_mem))
  have ct1 := H.cell (w.heap.size + 1) 1 (.int .i64 ra) (by repeat (first | with_reducible exact List.mem_cons_self | with_reducible apply List.mem_cons_of_mem))
  have ct2 := H.cell (w.heap.size + 1) 2 (.int .i64 ki) (by repeat (first | with_reducible exact List.mem_cons_self | with_reducible apply List.mem_cons_of_mem))
  have ct3 := H.cell (w.heap.size + 1) 3 (.int .i64 co) (by repeat (first | with_reducible exact List.mem_cons_self | with_reducible apply List.mem_cons_of_mem))
  have ct4 := H.cell (w.heap.size + 1) 4 (.int .i64 st) (by repeat (first | with_reducible exact List.mem_cons_self | with_reducible apply List.mem_cons_of_mem))
  have ct5 := H.cell (w.heap.size + 1) 5 (.int .i64 en) (by repeat (first | with_reducible exact List.mem_cons_self | with_reducible apply List.mem_cons_of_mem))
  have ct6 := H.cell (w.heap.size + 1) 6 (.int .i64 ms) (by repeat (first | with_reducible exact List.mem_cons_self | with_reducible apply List.mem_cons_of_mem))
  have ct7 := H.cell (w.heap.size + 1) 7 (.bool false) (by repeat (first | with_reducible exact List.mem_cons_self | with_reducible apply List.mem_cons_of_mem))
  have ct8 := H.cell (w.heap.size + 1) 8 (.bool lg) (by repeat (first | with_reducible exact List.mem_cons_self | with_reducible apply List.mem_cons_of_mem))
  have ct9 := H.cell (w.heap.size + 1) 9 (.bool eo) (by repeat (first | with_reducible exact List.mem_cons_self | with_reducible apply List.mem_cons_of_mem))
  have ct10 := H.cell (w.heap.size + 1) 10 (.int .i64 ro) (by repeat (first | with_reducible exact List.mem_cons_self | with_reducible apply List.mem_cons_of_mem))
  have lt := cell_lt ct0
  go_wp2_with fail
  clear ct0 ct1 ct2 ct3 ct4 ct5 ct6 ct7 ct8 ct9 ct10 lt
  (with_reducible refine (OT.out _ (H.factsT (by repeat (first | with_reducible exact List.mem_cons_self | with_reducible apply List.mem_cons_of_mem)))).mono ?_)
  rintro e w4 ⟨aA, cA, rfl, hd, hb⟩
  replace H := (H.below hb).add (f := daysF aA (ld D) D.length cA) hd
  clear hb hd
  have ct0 := H.cell (w.heap.size + 1) 0 (.int .i64 mo) (by repeat (first | with_reducible exact List.mem_cons_self | with_reducible apply List.mem_cons_of_mem))
  have ct1 := H.cell (w.heap.size + 1) 1 (.int .i64 ra) (by repeat (first | with_reducible exact List.mem_cons_self | with_reducible apply List.mem_cons_of_mem))
  have ct2 := H.cell (w.heap.size + 1) 2 (.int .i64 ki) (by repeat (first | with_reducible exact List.mem_cons_self | with_reducible apply List.mem_cons_of_mem))
  have ct3 := H.cell (w.heap.size + 1) 3 (.int .i64 co) (by repeat (first | with_reducible exact List.mem_cons_self | with_reducible apply List.mem_cons_of_mem))
  have ct4 := H.cell (w.heap.size + 1) 4 (.int .i64 st) (by repeat (first | with_reducible exact List.mem_cons_self | with_reducible apply List.mem_cons_of_mem))
  have ct5 := H.cell (w.heap.size + 1) 5 (.int .i64 en) (by repeat (first | with_reducible exact List.mem_cons_self | with_reducible apply List.mem_cons_of_mem))
  have ct6 := H.cell (w.heap.size + 1) 6 (.int .i64 ms) (by repeat (first | with_reducible exact List.mem_cons_self | with_reducible apply List.mem_cons_of_mem))
  have ct7 := H.cell (w.heap.size + 1) 7 (.bool false) (by repeat (first | with_reducible exact List.mem_cons_self | with_reducible apply List.mem_cons_of_mem))
  have ct8 := H.cell (w.heap.size + 1) 8 (.bool lg) (by repeat (first | with_reducible exact List.mem_cons_self | with_reducible apply List.mem_cons_of_mem))
  have ct9 := H.cell (w.heap.size + 1) 9 (.bool eo) (by repeat (first | with_reducible exact List.mem_cons_self | with_reducible apply List.mem_cons_of_mem))
  have ct10 := H.cell (w.heap.size + 1) 10 (.int .i64 ro) (by repeat (first | with_reducible exact List.mem_cons_self | with_reducible apply List.mem_cons_of_mem))
  have lt := cell_lt ct0
  go_wp2_with fail
  clear ct0 ct1 ct2 ct3 ct4 ct5 ct6 ct7 ct8 ct9 ct10 lt
  replace H := H.box_11 (w4.heap.size) (.int .i64 (1 + o)) (.int .i64 o) (.int .i64 k3) (.int .i64 c7) (.int .i64 st) (.int .i64 en) (.int .i64 ms) (.bool false) (.bool lg) (.bool eo) (.int .i64 y5) 23 rfl
  (with_reducible refine (OS.out _ (H.factsT (by repeat (first | with_reducible exact List.mem_cons_self | with_reducible apply List.mem_cons_of_mem)))).mono ?_)
  rintro e w5 ⟨aB, cB, rfl, hd, hb⟩
  replace H := (H.below hb).add (f := daysF aB (ld D) D.length cB) hd
  clear hb hd
  have ct0 := H.cell (w.heap.size + 1) 0 (.int .i64 mo) (by repeat (first | with_reducible exact List.mem_cons_self | with_reducible apply List.mem_cons_of_mem))
  have ct1 := H.cell (w.heap.size + 1) 1 (.int .i64 ra) (by repeat (first | with_reducible exact List.mem_cons_self | with_reducible apply List.mem_cons_of_mem))
  have ct2 := H.cell (w.heap.size + 1) 2 (.int .i64 ki) (by repeat (first | with_reducible exact List.mem_cons_self | with_reducible apply List.mem_cons_of_mem))
  have ct3 := H.cell (w.heap.size + 1) 3 (.int .i64 co) (by repeat (first | with_reducible exact List.mem_cons_self | with_reducible apply List.mem_cons_of_mem))
  have ct4 := H.cell (w.heap.size + 1) 4 (.int .i64 st) (by repeat (first | with_reducible exact List.mem_cons_self | with_reducible apply List.mem_cons_of_mem))
  have ct5 := H.cell (w.heap.size + 1) 5 (.int .i64 en) (by repeat (first | with_reducible exact List.mem_cons_self | with_reducible apply List.mem_cons_of_mem))
  have ct6 := H.cell (w.heap.size + 1) 6 (.int .i64 ms) (by repeat (first | with_reducible exact List.mem_cons_self | with_reducible apply List.mem_cons_of_mem))
  have ct7 := H.cell (w.heap.size + 1) 7 (.bool false) (by repeat (first | with_reducible exact List.mem_cons_self | with_reducible apply List.mem_cons_of_mem))
  have ct8 := H.cell (w.heap.size + 1) 8 (.bool lg) (by repeat (first | with_reducible exact List.mem_cons_self | with_reducible apply List.mem_cons_of_mem))
  have ct9 := H.cell (w.heap.size + 1) 9 (.bool eo) (by repeat (first | with_reducible exact List.mem_cons_self | with_reducible apply List.mem_cons_of_mem))
  have ct10 := H.cell (w.heap.size + 1) 10 (.int .i64 ro) (by repeat (first | with_reducible exact List.mem_cons_self | with_reducible apply List.mem_cons_of_mem))
  have lt := cell_lt ct0
  go_wp2_with fail
  clear ct0 ct1 ct2 ct3 ct4 ct5 ct6 ct7 ct8 ct9 ct10 lt
  replace H := H.box_11 (w5.heap.size) (.int .i64 mo) (.int .i64 ra) (.int .i64 ki) (.int .i64 co) (.int .i64 st) (.int .i64 en) (.int .i64 ms) (.bool false) (.bool lg) (.bool (!eo)) (.int .i64 ro) 23 rfl
  (with_reducible refine (OU.out _ (H.factsT (by repeat (first | with_reducible exact List.mem_cons_self | with_reducible apply List.mem_cons_of_mem)))).mono ?_)
  rintro e w6 ⟨aC, cC, rfl, hd, hb⟩
  replace H := (H.below hb).add (f := daysF aC (ld D2) D2.length cC) hd
  clear hb hd
  have ct0 := H.cell (w.heap.size + 1) 0 (.int .i64 mo) (by repeat (first | with_reducible exact List.mem_cons_self | with_reducible apply List.mem_cons_of_mem))
  have ct1 := H.cell (w.heap.size + 1) 1 (.int .i64 ra) (by repeat (first | with_reducible exact List.mem_cons_self | with_reducible apply List.mem_cons_of_mem))
  have ct2 := H.cell (w.heap.size + 1) 2 (.int .i64 ki) (by repeat (first | with_reducible exact List.mem_cons_self | with_reducible apply List.mem_cons_of_mem))
  have ct3 := H.cell (w.heap.size + 1) 3 (.int .i64 co) (by repeat (first | with_reducible exact List.mem_cons_self | with_reducible apply List.mem_cons_of_mem))
  have ct4 := H.cell (w.heap.size + 1) 4 (.int .i64 st) (by repeat (first | with_reducible exact List.mem_cons_self | with_reducible apply List.mem_cons_of_mem))
  have ct5 := H.cell (w.heap.size + 1) 5 (.int .i64 en) (by repeat (first | with_reducible exact List.mem_cons_self | with_reducible apply List.mem_cons_of_mem))
  have ct6 := H.cell (w.heap.size + 1) 6 (.int .i64 ms) (by repeat (first | with_reducible exact List.mem_cons_self | with_reducible apply List.mem_cons_of_mem))
  have ct7 := H.cell (w.heap.size + 1) 7 (.bool false) (by repeat (first | with_reducible exact List.mem_cons_self | with_reducible apply List.mem_cons_of_mem))
  have ct8 := H.cell (w.heap.size + 1) 8 (.bool lg) (by repeat (first | with_reducible exact List.mem_cons_self | with_reducible apply List.mem_cons_of_mem))
  have ct9 := H.cell (w.heap.size + 1) 9 (.bool eo) (by repeat (first | with_reducible exact List.mem_cons_self | with_reducible apply List.mem_cons_of_mem))
  have ct10 := H.cell (w.heap.size + 1) 10 (.int .i64 ro) (by repeat (first | with_reducible exact List.mem_cons_self | with_reducible apply List.mem_cons_of_mem))
  have lt := cell_lt ct0
  go_wp2_with fail
  clear ct0 ct1 ct2 ct3 ct4 ct5 ct6 ct7 ct8 ct9 ct10 lt
  (with_reducible refine (LS.out _).mono ?_)
  rintro e w7 ⟨rfl, hb⟩
  replace H := H.below hb
  clear hb
  go_wp2_with fail
  (with_reducible refine (rrow_yes aA D.length cA (ld D) aB cB (ld D) _ (by omega) (H.days (ao := aA) (X := ld D) (n := D.length) (cap := cA) (by repeat (first | with_reducible exact List.mem_cons_self | with_reducible apply List.mem_cons_of_mem))) (H.days (ao := aB) (X := ld D) (n := D.length) (cap := cB) (by repeat (first | with_reducible exact List.mem_cons_self | with_reducible apply List.mem_cons_of_mem))) (fun _ _ => rfl)).mono ?_)
  rintro e w8 ⟨rfl, hb⟩
  replace H := H.below hb
  clear hb
  go_wp2
  go_ret
  exact ⟨rfl, H.old⟩
set_option maxHeartbeats 8000000 in
set_option maxRecDepth 100000 in
theorem dturn_true_false (mo ra ki co st en ms : Int) (lg eo : Bool) (ro : Int) (k c y o : Int) (w : World) (hL : FactsT w) (hc : (Tm.mk mo ra ki co st en ms true lg eo ro).code = 0) (hs : en - st ≤ 3100) (hl : LastIs en false) (b1 : 0 ≤ k ∧ k < 256) (b2 : 0 ≤ c ∧ c < 256) (b3 : 0 ≤ y ∧ y < 256) (b4 : 0 ≤ o ∧ o < 65536) : Calls Tryz.prog 8 #[.agg #[.int .i64 mo, .int .i64 ra, .int .i64 ki, .int .i64 co, .int .i64 st, .int .i64 en, .int .i64 ms, .bool true, .bool lg, .bool eo, .int .i64 ro, .int .u8 k, .int .u8 c, .int .u8 y, .int .u16 o]] w fun e w' => e = .returned (.bool true) ∧ Below w.heap.size w w' := by
  have H := (Held.start w).add (f := factsTF) hL
  have CK := Lib.hid (fun v => rcheck15 mo ra ki co st en ms true lg eo ro 0 v hc)
  obtain ⟨hf, hd, ho, how, hpr⟩ := Tm.of_zero hc
  have mb : 1 ≤ ms ∧ ms ≤ 12 := mo_bd hf.2.2.2
  have SHT := Lib.hid (fun v => short_any mo ra ki co st en ms true lg eo ro 100 true v hd.1 hd.2 ho (by omega) (decide_eq_true (by omega)))
  obtain ⟨X, E, m, hWk⟩ := Tm.walk (Tm.mk mo ra ki co st en ms true lg eo ro) hc (by show en - st ≤ 30000; omega)
  obtain ⟨D, hD⟩ : ∃ D, (Tm.mk mo ra ki co st en ms true lg eo ro).days ((Tm.mk mo ra ki co st en ms true lg eo ro).grid X (gl E m)) = D := ⟨_, rfl⟩
  have D1 : D.length ≤ 1103 := by
    rw [← hD, Tm.days_len]
    have := Tm.kept_len (Tm.mk mo ra ki co st en ms true lg eo ro) ((Tm.mk mo ra ki co st en ms true lg eo ro).grid X (gl E m))
    rw [Tm.grid_len] at this
    have := (gl_bd E m).2
    have := hWk.top
    omega
  obtain ⟨k3, hk3⟩ : ∃ k3, k % 3 = k3 := ⟨_, rfl⟩
  obtain ⟨c7, hc7⟩ : ∃ c7, c % 7 = c7 := ⟨_, rfl⟩
  obtain ⟨y5, hy5⟩ : ∃ y5, y % 5 = y5 := ⟨_, rfl⟩
  have cS : (Tm.mk (1 + o) o k3 c7 st en ms true lg eo y5).code = 0 := Tm.may (t := Tm.mk (1 + o) o k3 c7 st en ms true lg eo y5) ⟨⟨by show 0 ≤ k3; omega, by show k3 ≤ 2; omega⟩, ⟨by show 0 ≤ c7; omega, by show c7 ≤ 6; omega⟩, ⟨by show 0 ≤ y5; omega, by show y5 ≤ 4; omega⟩, hf.2.2.2⟩ hd ho ⟨⟨by show 1 ≤ 1 + o; omega, by show 1 + o ≤ _; omega⟩, ⟨by show 0 ≤ o; omega, by show o ≤ _; omega⟩⟩ (by
    show (1 + o) * o ≤ 9000000000000000000
    have := Int.mul_le_mul (show 1 + o ≤ 65536 by omega) (show o ≤ 65535 by omega) (by omega) (by omega)
    omega)
  have OT := Lib.hid (fun v h => of_yes mo ra ki co st en ms true lg eo ro X E m D v h hc (by omega) hWk hD)
  have OS := Lib.hid (fun v h => of_yes (1 + o) o k3 c7 st en ms true lg eo y5 X E m D v h cS (by omega) (hWk.turn rfl rfl rfl rfl rfl) hD)
  have LS := Lib.hid (fun v => rlast_any en false v hl)
  have OU := Lib.hid (fun v h => of_yes mo ra ki co st en ms true lg (!eo) ro X E m D v h hc (by omega) (hWk.free rfl rfl rfl rfl hl) hD)
  clear hc hf hd ho how hpr hs hWk hD cS hl mb
  clear hL
  go_enter Tryz.func8, Tryz.ntmps8
  go_wp2_with fail
  replace H := H.box_15 (w.heap.size) (.int .i64 mo) (.int .i64 ra) (.int .i64 ki) (.int .i64 co) (.int .i64 st) (.int .i64 en) (.int .i64 ms) (.bool true) (.bool lg) (.bool eo) (.int .i64 ro) (.int .u8 k) (.int .u8 c) (.int .u8 y) (.int .u16 o) 47 rfl
  replace H := H.box_11 (w.heap.size + 1) (.int .i64 mo) (.int .i64 ra) (.int .i64 ki) (.int .i64 co) (.int .i64 st) (.int .i64 en) (.int .i64 ms) (.bool true) (.bool lg) (.bool eo) (.int .i64 ro) 23 (by simp)
  (with_reducible refine (dshown_any _ (H.factsT (by repeat (first | with_reducible exact List.mem_cons_self | with_reducible apply List.mem_cons_of_mem)))).mono ?_)
  rintro e w1 ⟨rfl, hb⟩
  replace H := H.below hb
  clear hb
  have ct0 := H.cell (w.heap.size + 1) 0 (.int .i64 mo) (by repeat (first | with_reducible exact List.mem_cons_self | with_reducible apply List.mem_cons_of_mem))
  have ct1 := H.cell (w.heap.size + 1) 1 (.int .i64 ra) (by repeat (first | with_reducible exact List.mem_cons_self | with_reducible apply List.mem_cons_of_mem))
  have ct2 := H.cell (w.heap.size + 1) 2 (.int .i64 ki) (by repeat (first | with_reducible exact List.mem_cons_self | with_reducible apply List.mem_cons_of_mem))
  have ct3 := H.cell (w.heap.size + 1) 3 (.int .i64 co) (by repeat (first | with_reducible exact List.mem_cons_self | with_reducible apply List.mem_cons_of_mem))
  have ct4 := H.cell (w.heap.size + 1) 4 (.int .i64 st) (by repeat (first | with_reducible exact List.mem_cons_self | with_reducible apply List.mem_cons_of_mem))
  have ct5 := H.cell (w.heap.size + 1) 5 (.int .i64 en) (by repeat (first | with_reducible exact List.mem_cons_self | with_reducible apply List.mem_cons_of_mem))
  have ct6 := H.cell (w.heap.size + 1) 6 (.int .i64 ms) (by repeat (first | with_reducible exact List.mem_cons_self | with_reducible apply List.mem_cons_of_mem))
  have ct7 := H.cell (w.heap.size + 1) 7 (.bool true) (by repeat (first | with_reducible exact List.mem_cons_self | with_reducible apply List.mem_cons_of_mem))
  have ct8 := H.cell (w.heap.size + 1) 8 (.bool lg) (by repeat (first | with_reducible exact List.mem_cons_self | with_reducible apply List.mem_cons_of_mem))
  have ct9 := H.cell (w.heap.size + 1) 9 (.bool eo) (by repeat (first | with_reducible exact List.mem_cons_self | with_reducible apply List.mem_cons_of_mem))
  have ct10 := H.cell (w.heap.size + 1) 10 (.int .i64 ro) (by repeat (first | with_reducible exact List.mem_cons_self | with_reducible apply List.mem_cons_of_mem))
  have lt := cell_lt ct0
  go_wp2_with fail
  clear ct0 ct1 ct2 ct3 ct4 ct5 ct6 ct7 ct8 ct9 ct10 lt
  (with_reducible refine (CK.out _).mono ?_)
  rintro e w2 ⟨rfl, hb⟩
  replace H := H.below hb
  clear hb
  have ct0 := H.cell (w.heap.size + 1) 0 (.int .i64 mo) (by repeat (first | with_reducible exact List.mem_cons_self | with_reducible apply List.mem_cons_of_mem))
  have ct1 := H.cell (w.heap.size + 1) 1 (.int .i64 ra) (by repeat (first | with_reducible exact List.mem_cons_self | with_reducible apply List.mem_cons_of_mem))
  have ct2 := H.cell (w.heap.size + 1) 2 (.int .i64 ki) (by repeat (first | with_reducible exact List.mem_cons_self | with_reducible apply List.mem_cons_of_mem))
  have ct3 := H.cell (w.heap.size + 1) 3 (.int .i64 co) (by repeat (first | with_reducible exact List.mem_cons_self | with_reducible apply List.mem_cons_of_mem))
  have ct4 := H.cell (w.heap.size + 1) 4 (.int .i64 st) (by repeat (first | with_reducible exact List.mem_cons_self | with_reducible apply List.mem_cons_of_mem))
  have ct5 := H.cell (w.heap.size + 1) 5 (.int .i64 en) (by repeat (first | with_reducible exact List.mem_cons_self | with_reducible apply List.mem_cons_of_mem))
  have ct6 := H.cell (w.heap.size + 1) 6 (.int .i64 ms) (by repeat (first | with_reducible exact List.mem_cons_self | with_reducible apply List.mem_cons_of_mem))
  have ct7 := H.cell (w.heap.size + 1) 7 (.bool true) (by repeat (first | with_reducible exact List.mem_cons_self | with_reducible apply List.mem_cons_of_mem))
  have ct8 := H.cell (w.heap.size + 1) 8 (.bool lg) (by repeat (first | with_reducible exact List.mem_cons_self | with_reducible apply List.mem_cons_of_mem))
  have ct9 := H.cell (w.heap.size + 1) 9 (.bool eo) (by repeat (first | with_reducible exact List.mem_cons_self | with_reducible apply List.mem_cons_of_mem))
  have ct10 := H.cell (w.heap.size + 1) 10 (.int .i64 ro) (by repeat (first | with_reducible exact List.mem_cons_self | with_reducible apply List.mem_cons_of_mem))
  have lt := cell_lt ct0
  go_wp2_with fail
  clear ct0 ct1 ct2 ct3 ct4 ct5 ct6 ct7 ct8 ct9 ct10 lt
  (with_reducible refine (SHT.out _).mono ?_)
  rintro e w3 ⟨rfl, hb⟩
  replace H := H.below hb
  clear hb
  have ct0 := H.cell (w.heap.size + 1) 0 (.int .i64 mo) (by repeat (first | with_reducible exact List.mem_cons_self | with_reducible apply List.mem_cons_of_mem))
  have ct1 := H.cell (w.heap.size + 1) 1 (.int .i64 ra) (by repeat (first | with_reducible exact List.mem_cons_self | with_reducible apply List.mem_cons_of_mem))
  have ct2 := H.cell (w.heap.size + 1) 2 (.int .i64 ki) (by repeat (first | with_reducible exact List.mem_cons_self | with_reducible apply List.mem_cons_of_mem))
  have ct3 := H.cell (w.heap.size + 1) 3 (.int .i64 co) (by repeat (first | with_reducible exact List.mem_cons_self | with_reducible apply List.mem_cons_of_mem))
  have ct4 := H.cell (w.heap.size + 1) 4 (.int .i64 st) (by repeat (first | with_reducible exact List.mem_cons_self | with_reducible apply List.mem_cons_of_mem))
  have ct5 := H.cell (w.heap.size + 1) 5 (.int .i64 en) (by repeat (first | with_reducible exact List.mem_cons_self | with_reducible apply List.mem_cons_of_mem))
  have ct6 := H.cell (w.heap.size + 1) 6 (.int .i64 ms) (by repeat (first | with_reducible exact List.mem_cons_self | with_reducible apply List.mem_cons_of_mem))
  have ct7 := H.cell (w.heap.size + 1) 7 (.bool true) (by repeat (first | with_reducible exact List.mem_cons_self | with_reducible apply List.mem_cons_of_mem))
  have ct8 := H.cell (w.heap.size + 1) 8 (.bool lg) (by repeat (first | with_reducible exact List.mem_cons_self | with_reducible apply List.mem_cons_of_mem))
  have ct9 := H.cell (w.heap.size + 1) 9 (.bool eo) (by repeat (first | with_reducible exact List.mem_cons_self | with_reducible apply List.mem_cons_of_mem))
  have ct10 := H.cell (w.heap.size + 1) 10 (.int .i64 ro) (by repeat (first | with_reducible exact List.mem_cons_self | with_reducible apply List.mem_cons_of_mem))
  have lt := cell_lt ct0
  go_wp2_with fail
  clear ct0 ct1 ct2 ct3 ct4 ct5 ct6 ct7 ct8 ct9 ct10 lt
  (with_reducible refine (OT.out _ (H.factsT (by repeat (first | with_reducible exact List.mem_cons_self | with_reducible apply List.mem_cons_of_mem)))).mono ?_)
  rintro e w4 ⟨aA, cA, rfl, hd, hb⟩
  replace H := (H.below hb).add (f := daysF aA (ld D) D.length cA) hd
  clear hb hd
  have ct0 := H.cell (w.heap.size + 1) 0 (.int .i64 mo) (by repeat (first | with_reducible exact List.mem_cons_self | with_reducible apply List.mem_cons_of_mem))
  have ct1 := H.cell (w.heap.size + 1) 1 (.int .i64 ra) (by repeat (first | with_reducible exact List.mem_cons_self | with_reducible apply List.mem_cons_of_mem))
  have ct2 := H.cell (w.heap.size + 1) 2 (.int .i64 ki) (by repeat (first | with_reducible exact List.mem_cons_self | with_reducible apply List.mem_cons_of_mem))
  have ct3 := H.cell (w.heap.size + 1) 3 (.int .i64 co) (by repeat (first | with_reducible exact List.mem_cons_self | with_reducible apply List.mem_cons_of_mem))
  have ct4 := H.cell (w.heap.size + 1) 4 (.int .i64 st) (by repeat (first | with_reducible exact List.mem_cons_self | with_reducible apply List.mem_cons_of_mem))
  have ct5 := H.cell (w.heap.size + 1) 5 (.int .i64 en) (by repeat (first | with_reducible exact List.mem_cons_self | with_reducible apply List.mem_cons_of_mem))
  have ct6 := H.cell (w.heap.size + 1) 6 (.int .i64 ms) (by repeat (first | with_reducible exact List.mem_cons_self | with_reducible apply List.mem_cons_of_mem))
  have ct7 := H.cell (w.heap.size + 1) 7 (.bool true) (by repeat (first | with_reducible exact List.mem_cons_self | with_reducible apply List.mem_cons_of_mem))
  have ct8 := H.cell (w.heap.size + 1) 8 (.bool lg) (by repeat (first | with_reducible exact List.mem_cons_self | with_reducible apply List.mem_cons_of_mem))
  have ct9 := H.cell (w.heap.size + 1) 9 (.bool eo) (by repeat (first | with_reducible exact List.mem_cons_self | with_reducible apply List.mem_cons_of_mem))
  have ct10 := H.cell (w.heap.size + 1) 10 (.int .i64 ro) (by repeat (first | with_reducible exact List.mem_cons_self | with_reducible apply List.mem_cons_of_mem))
  have lt := cell_lt ct0
  go_wp2_with fail
  clear ct0 ct1 ct2 ct3 ct4 ct5 ct6 ct7 ct8 ct9 ct10 lt
  replace H := H.box_11 (w4.heap.size) (.int .i64 (1 + o)) (.int .i64 o) (.int .i64 k3) (.int .i64 c7) (.int .i64 st) (.int .i64 en) (.int .i64 ms) (.bool true) (.bool lg) (.bool eo) (.int .i64 y5) 23 rfl
  (with_reducible refine (OS.out _ (H.factsT (by repeat (first | with_reducible exact List.mem_cons_self | with_reducible apply List.mem_cons_of_mem)))).mono ?_)
  rintro e w5 ⟨aB, cB, rfl, hd, hb⟩
  replace H := (H.below hb).add (f := daysF aB (ld D) D.length cB) hd
  clear hb hd
  have ct0 := H.cell (w.heap.size + 1) 0 (.int .i64 mo) (by repeat (first | with_reducible exact List.mem_cons_self | with_reducible apply List.mem_cons_of_mem))
  have ct1 := H.cell (w.heap.size + 1) 1 (.int .i64 ra) (by repeat (first | with_reducible exact List.mem_cons_self | with_reducible apply List.mem_cons_of_mem))
  have ct2 := H.cell (w.heap.size + 1) 2 (.int .i64 ki) (by repeat (first | with_reducible exact List.mem_cons_self | with_reducible apply List.mem_cons_of_mem))
  have ct3 := H.cell (w.heap.size + 1) 3 (.int .i64 co) (by repeat (first | with_reducible exact List.mem_cons_self | with_reducible apply List.mem_cons_of_mem))
  have ct4 := H.cell (w.heap.size + 1) 4 (.int .i64 st) (by repeat (first | with_reducible exact List.mem_cons_self | with_reducible apply List.mem_cons_of_mem))
  have ct5 := H.cell (w.heap.size + 1) 5 (.int .i64 en) (by repeat (first | with_reducible exact List.mem_cons_self | with_reducible apply List.mem_cons_of_mem))
  have ct6 := H.cell (w.heap.size + 1) 6 (.int .i64 ms) (by repeat (first | with_reducible exact List.mem_cons_self | with_reducible apply List.mem_cons_of_mem))
  have ct7 := H.cell (w.heap.size + 1) 7 (.bool true) (by repeat (first | with_reducible exact List.mem_cons_self | with_reducible apply List.mem_cons_of_mem))
  have ct8 := H.cell (w.heap.size + 1) 8 (.bool lg) (by repeat (first | with_reducible exact List.mem_cons_self | with_reducible apply List.mem_cons_of_mem))
  have ct9 := H.cell (w.heap.size + 1) 9 (.bool eo) (by repeat (first | with_reducible exact List.mem_cons_self | with_reducible apply List.mem_cons_of_mem))
  have ct10 := H.cell (w.heap.size + 1) 10 (.int .i64 ro) (by repeat (first | with_reducible exact List.mem_cons_self | with_reducible apply List.mem_cons_of_mem))
  have lt := cell_lt ct0
  go_wp2_with fail
  clear ct0 ct1 ct2 ct3 ct4 ct5 ct6 ct7 ct8 ct9 ct10 lt
  replace H := H.box_11 (w5.heap.size) (.int .i64 mo) (.int .i64 ra) (.int .i64 ki) (.int .i64 co) (.int .i64 st) (.int .i64 en) (.int .i64 ms) (.bool true) (.bool lg) (.bool (!eo)) (.int .i64 ro) 23 rfl
  (with_reducible refine (OU.out _ (H.factsT (by repeat (first | with_reducible exact List.mem_cons_self | with_reducible apply List.mem_cons_of_mem)))).mono ?_)
  rintro e w6 ⟨aC, cC, rfl, hd, hb⟩
  replace H := (H.below hb).add (f := daysF aC (ld D) D.length cC) hd
  clear hb hd
  have ct0 := H.cell (w.heap.size + 1) 0 (.int .i64 mo) (by repeat (first | with_reducible exact List.mem_cons_self | with_reducible apply List.mem_cons_of_mem))
  have ct1 := H.cell (w.heap.size + 1) 1 (.int .i64 ra) (by repeat (first | with_reducible exact List.mem_cons_self | with_reducible apply List.mem_cons_of_mem))
  have ct2 := H.cell (w.heap.size + 1) 2 (.int .i64 ki) (by repeat (first | with_reducible exact List.mem_cons_self | with_reducible apply List.mem_cons_of_mem))
  have ct3 := H.cell (w.heap.size + 1) 3 (.int .i64 co) (by repeat (first | with_reducible exact List.mem_cons_self | with_reducible apply List.mem_cons_of_mem))
  have ct4 := H.cell (w.heap.size + 1) 4 (.int .i64 st) (by repeat (first | with_reducible exact List.mem_cons_self | with_reducible apply List.mem_cons_of_mem))
  have ct5 := H.cell (w.heap.size + 1) 5 (.int .i64 en) (by repeat (first | with_reducible exact List.mem_cons_self | with_reducible apply List.mem_cons_of_mem))
  have ct6 := H.cell (w.heap.size + 1) 6 (.int .i64 ms) (by repeat (first | with_reducible exact List.mem_cons_self | with_reducible apply List.mem_cons_of_mem))
  have ct7 := H.cell (w.heap.size + 1) 7 (.bool true) (by repeat (first | with_reducible exact List.mem_cons_self | with_reducible apply List.mem_cons_of_mem))
  have ct8 := H.cell (w.heap.size + 1) 8 (.bool lg) (by repeat (first | with_reducible exact List.mem_cons_self | with_reducible apply List.mem_cons_of_mem))
  have ct9 := H.cell (w.heap.size + 1) 9 (.bool eo) (by repeat (first | with_reducible exact List.mem_cons_self | with_reducible apply List.mem_cons_of_mem))
  have ct10 := H.cell (w.heap.size + 1) 10 (.int .i64 ro) (by repeat (first | with_reducible exact List.mem_cons_self | with_reducible apply List.mem_cons_of_mem))
  have lt := cell_lt ct0
  go_wp2_with fail
  clear ct0 ct1 ct2 ct3 ct4 ct5 ct6 ct7 ct8 ct9 ct10 lt
  (with_reducible refine (LS.out _).mono ?_)
  rintro e w7 ⟨rfl, hb⟩
  replace H := H.below hb
  clear hb
  go_wp2_with fail
  (with_reducible refine (rrow_yes aA D.length cA (ld D) aB cB (ld D) _ (by omega) (H.days (ao := aA) (X := ld D) (n := D.length) (cap := cA) (by repeat (first | with_reducible exact List.mem_cons_self | with_reducible apply List.mem_cons_of_mem))) (H.days (ao := aB) (X := ld D) (n := D.length) (cap := cB) (by repeat (first | with_reducible exact List.mem_cons_self | with_reducible apply List.mem_cons_of_mem))) (fun _ _ => rfl)).mono ?_)
  rintro e w8 ⟨rfl, hb⟩
  replace H := H.below hb
  clear hb
  go_wp2_with fail
  (with_reducible refine (rrow_yes aA D.length cA (ld D) aC cC (ld D) _ (by omega) (H.days (ao := aA) (X := ld D) (n := D.length) (cap := cA) (by repeat (first | with_reducible exact List.mem_cons_self | with_reducible apply List.mem_cons_of_mem))) (H.days (ao := aC) (X := ld D) (n := D.length) (cap := cC) (by repeat (first | with_reducible exact List.mem_cons_self | with_reducible apply List.mem_cons_of_mem))) (fun _ _ => rfl)).mono ?_)
  rintro e w9 ⟨rfl, hb⟩
  replace H := H.below hb
  clear hb
  go_wp2
  go_ret
  exact ⟨rfl, H.old⟩
set_option maxHeartbeats 8000000 in
set_option maxRecDepth 100000 in
theorem dturn_true_true (mo ra ki co st en ms : Int) (lg eo : Bool) (ro : Int) (k c y o : Int) (w : World) (hL : FactsT w) (hc : (Tm.mk mo ra ki co st en ms true lg eo ro).code = 0) (hs : en - st ≤ 3100) (hl : LastIs en true) (b1 : 0 ≤ k ∧ k < 256) (b2 : 0 ≤ c ∧ c < 256) (b3 : 0 ≤ y ∧ y < 256) (b4 : 0 ≤ o ∧ o < 65536) : Calls Tryz.prog 8 #[.agg #[.int .i64 mo, .int .i64 ra, .int .i64 ki, .int .i64 co, .int .i64 st, .int .i64 en, .int .i64 ms, .bool true, .bool lg, .bool eo, .int .i64 ro, .int .u8 k, .int .u8 c, .int .u8 y, .int .u16 o]] w fun e w' => e = .returned (.bool true) ∧ Below w.heap.size w w' := by
  have H := (Held.start w).add (f := factsTF) hL
  have CK := Lib.hid (fun v => rcheck15 mo ra ki co st en ms true lg eo ro 0 v hc)
  obtain ⟨hf, hd, ho, how, hpr⟩ := Tm.of_zero hc
  have mb : 1 ≤ ms ∧ ms ≤ 12 := mo_bd hf.2.2.2
  have SHT := Lib.hid (fun v => short_any mo ra ki co st en ms true lg eo ro 100 true v hd.1 hd.2 ho (by omega) (decide_eq_true (by omega)))
  obtain ⟨X, E, m, hWk⟩ := Tm.walk (Tm.mk mo ra ki co st en ms true lg eo ro) hc (by show en - st ≤ 30000; omega)
  obtain ⟨D, hD⟩ : ∃ D, (Tm.mk mo ra ki co st en ms true lg eo ro).days ((Tm.mk mo ra ki co st en ms true lg eo ro).grid X (gl E m)) = D := ⟨_, rfl⟩
  have D1 : D.length ≤ 1103 := by
    rw [← hD, Tm.days_len]
    have := Tm.kept_len (Tm.mk mo ra ki co st en ms true lg eo ro) ((Tm.mk mo ra ki co st en ms true lg eo ro).grid X (gl E m))
    rw [Tm.grid_len] at this
    have := (gl_bd E m).2
    have := hWk.top
    omega
  obtain ⟨k3, hk3⟩ : ∃ k3, k % 3 = k3 := ⟨_, rfl⟩
  obtain ⟨c7, hc7⟩ : ∃ c7, c % 7 = c7 := ⟨_, rfl⟩
  obtain ⟨y5, hy5⟩ : ∃ y5, y % 5 = y5 := ⟨_, rfl⟩
  have cS : (Tm.mk (1 + o) o k3 c7 st en ms true lg eo y5).code = 0 := Tm.may (t := Tm.mk (1 + o) o k3 c7 st en ms true lg eo y5) ⟨⟨by show 0 ≤ k3; omega, by show k3 ≤ 2; omega⟩, ⟨by show 0 ≤ c7; omega, by show c7 ≤ 6; omega⟩, ⟨by show 0 ≤ y5; omega, by show y5 ≤ 4; omega⟩, hf.2.2.2⟩ hd ho ⟨⟨by show 1 ≤ 1 + o; omega, by show 1 + o ≤ _; omega⟩, ⟨by show 0 ≤ o; omega, by show o ≤ _; omega⟩⟩ (by
    show (1 + o) * o ≤ 9000000000000000000
    have := Int.mul_le_mul (show 1 + o ≤ 65536 by omega) (show o ≤ 65535 by omega) (by omega) (by omega)
    omega)
  have OT := Lib.hid (fun v h => of_yes mo ra ki co st en ms true lg eo ro X E m D v h hc (by omega) hWk hD)
  have OS := Lib.hid (fun v h => of_yes (1 + o) o k3 c7 st en ms true lg eo y5 X E m D v h cS (by omega) (hWk.turn rfl rfl rfl rfl rfl) hD)
  have LS := Lib.hid (fun v => rlast_any en true v hl)
  obtain ⟨X2, E2, m2, hWk2⟩ := Tm.walk (Tm.mk mo ra ki co st en ms true lg (!eo) ro) hc (by show en - st ≤ 30000; omega)
  obtain ⟨D2, hD2⟩ : ∃ D2, (Tm.mk mo ra ki co st en ms true lg (!eo) ro).days ((Tm.mk mo ra ki co st en ms true lg (!eo) ro).grid X2 (gl E2 m2)) = D2 := ⟨_, rfl⟩
  have OU := Lib.hid (fun v h => of_yes mo ra ki co st en ms true lg (!eo) ro X2 E2 m2 D2 v h hc (by omega) hWk2 hD2)
  clear hWk2 hD2
  clear hc hf hd ho how hpr hs hWk hD cS hl mb
  clear hL
  go_enter Tryz.func8, Tryz.ntmps8
  go_wp2_with fail
  replace H := H.box_15 (w.heap.size) (.int .i64 mo) (.int .i64 ra) (.int .i64 ki) (.int .i64 co) (.int .i64 st) (.int .i64 en) (.int .i64 ms) (.bool true) (.bool lg) (.bool eo) (.int .i64 ro) (.int .u8 k) (.int .u8 c) (.int .u8 y) (.int .u16 o) 47 rfl
  replace H := H.box_11 (w.heap.size + 1) (.int .i64 mo) (.int .i64 ra) (.int .i64 ki) (.int .i64 co) (.int .i64 st) (.int .i64 en) (.int .i64 ms) (.bool true) (.bool lg) (.bool eo) (.int .i64 ro) 23 (by simp)
  (with_reducible refine (dshown_any _ (H.factsT (by repeat (first | with_reducible exact List.mem_cons_self | with_reducible apply List.mem_cons_of_mem)))).mono ?_)
  rintro e w1 ⟨rfl, hb⟩
  replace H := H.below hb
  clear hb
  have ct0 := H.cell (w.heap.size + 1) 0 (.int .i64 mo) (by repeat (first | with_reducible exact List.mem_cons_self | with_reducible apply List.mem_cons_of_mem))
  have ct1 := H.cell (w.heap.size + 1) 1 (.int .i64 ra) (by repeat (first | with_reducible exact List.mem_cons_self | with_reducible apply List.mem_cons_of_mem))
  have ct2 := H.cell (w.heap.size + 1) 2 (.int .i64 ki) (by repeat (first | with_reducible exact List.mem_cons_self | with_reducible apply List.mem_cons_of_mem))
  have ct3 := H.cell (w.heap.size + 1) 3 (.int .i64 co) (by repeat (first | with_reducible exact List.mem_cons_self | with_reducible apply List.mem_cons_of_mem))
  have ct4 := H.cell (w.heap.size + 1) 4 (.int .i64 st) (by repeat (first | with_reducible exact List.mem_cons_self | with_reducible apply List.mem_cons_of_mem))
  have ct5 := H.cell (w.heap.size + 1) 5 (.int .i64 en) (by repeat (first | with_reducible exact List.mem_cons_self | with_reducible apply List.mem_cons_of_mem))
  have ct6 := H.cell (w.heap.size + 1) 6 (.int .i64 ms) (by repeat (first | with_reducible exact List.mem_cons_self | with_reducible apply List.mem_cons_of_mem))
  have ct7 := H.cell (w.heap.size + 1) 7 (.bool true) (by repeat (first | with_reducible exact List.mem_cons_self | with_reducible apply List.mem_cons_of_mem))
  have ct8 := H.cell (w.heap.size + 1) 8 (.bool lg) (by repeat (first | with_reducible exact List.mem_cons_self | with_reducible apply List.mem_cons_of_mem))
  have ct9 := H.cell (w.heap.size + 1) 9 (.bool eo) (by repeat (first | with_reducible exact List.mem_cons_self | with_reducible apply List.mem_cons_of_mem))
  have ct10 := H.cell (w.heap.size + 1) 10 (.int .i64 ro) (by repeat (first | with_reducible exact List.mem_cons_self | with_reducible apply List.mem_cons_of_mem))
  have lt := cell_lt ct0
  go_wp2_with fail
  clear ct0 ct1 ct2 ct3 ct4 ct5 ct6 ct7 ct8 ct9 ct10 lt
  (with_reducible refine (CK.out _).mono ?_)
  rintro e w2 ⟨rfl, hb⟩
  replace H := H.below hb
  clear hb
  have ct0 := H.cell (w.heap.size + 1) 0 (.int .i64 mo) (by repeat (first | with_reducible exact List.mem_cons_self | with_reducible apply List.mem_cons_of_mem))
  have ct1 := H.cell (w.heap.size + 1) 1 (.int .i64 ra) (by repeat (first | with_reducible exact List.mem_cons_self | with_reducible apply List.mem_cons_of_mem))
  have ct2 := H.cell (w.heap.size + 1) 2 (.int .i64 ki) (by repeat (first | with_reducible exact List.mem_cons_self | with_reducible apply List.mem_cons_of_mem))
  have ct3 := H.cell (w.heap.size + 1) 3 (.int .i64 co) (by repeat (first | with_reducible exact List.mem_cons_self | with_reducible apply List.mem_cons_of_mem))
  have ct4 := H.cell (w.heap.size + 1) 4 (.int .i64 st) (by repeat (first | with_reducible exact List.mem_cons_self | with_reducible apply List.mem_cons_of_mem))
  have ct5 := H.cell (w.heap.size + 1) 5 (.int .i64 en) (by repeat (first | with_reducible exact List.mem_cons_self | with_reducible apply List.mem_cons_of_mem))
  have ct6 := H.cell (w.heap.size + 1) 6 (.int .i64 ms) (by repeat (first | with_reducible exact List.mem_cons_self | with_reducible apply List.mem_cons_of_mem))
  have ct7 := H.cell (w.heap.size + 1) 7 (.bool true) (by repeat (first | with_reducible exact List.mem_cons_self | with_reducible apply List.mem_cons_of_mem))
  have ct8 := H.cell (w.heap.size + 1) 8 (.bool lg) (by repeat (first | with_reducible exact List.mem_cons_self | with_reducible apply List.mem_cons_of_mem))
  have ct9 := H.cell (w.heap.size + 1) 9 (.bool eo) (by repeat (first | with_reducible exact List.mem_cons_self | with_reducible apply List.mem_cons_of_mem))
  have ct10 := H.cell (w.heap.size + 1) 10 (.int .i64 ro) (by repeat (first | with_reducible exact List.mem_cons_self | with_reducible apply List.mem_cons_of_mem))
  have lt := cell_lt ct0
  go_wp2_with fail
  clear ct0 ct1 ct2 ct3 ct4 ct5 ct6 ct7 ct8 ct9 ct10 lt
  (with_reducible refine (SHT.out _).mono ?_)
  rintro e w3 ⟨rfl, hb⟩
  replace H := H.below hb
  clear hb
  have ct0 := H.cell (w.heap.size + 1) 0 (.int .i64 mo) (by repeat (first | with_reducible exact List.mem_cons_self | with_reducible apply List.mem_cons_of_mem))
  have ct1 := H.cell (w.heap.size + 1) 1 (.int .i64 ra) (by repeat (first | with_reducible exact List.mem_cons_self | with_reducible apply List.mem_cons_of_mem))
  have ct2 := H.cell (w.heap.size + 1) 2 (.int .i64 ki) (by repeat (first | with_reducible exact List.mem_cons_self | with_reducible apply List.mem_cons_of_mem))
  have ct3 := H.cell (w.heap.size + 1) 3 (.int .i64 co) (by repeat (first | with_reducible exact List.mem_cons_self | with_reducible apply List.mem_cons_of_mem))
  have ct4 := H.cell (w.heap.size + 1) 4 (.int .i64 st) (by repeat (first | with_reducible exact List.mem_cons_self | with_reducible apply List.mem_cons_of_mem))
  have ct5 := H.cell (w.heap.size + 1) 5 (.int .i64 en) (by repeat (first | with_reducible exact List.mem_cons_self | with_reducible apply List.mem_cons_of_mem))
  have ct6 := H.cell (w.heap.size + 1) 6 (.int .i64 ms) (by repeat (first | with_reducible exact List.mem_cons_self | with_reducible apply List.mem_cons_of_mem))
  have ct7 := H.cell (w.heap.size + 1) 7 (.bool true) (by repeat (first | with_reducible exact List.mem_cons_self | with_reducible apply List.mem_cons_of_mem))
  have ct8 := H.cell (w.heap.size + 1) 8 (.bool lg) (by repeat (first | with_reducible exact List.mem_cons_self | with_reducible apply List.mem_cons_of_mem))
  have ct9 := H.cell (w.heap.size + 1) 9 (.bool eo) (by repeat (first | with_reducible exact List.mem_cons_self | with_reducible apply List.mem_cons_of_mem))
  have ct10 := H.cell (w.heap.size + 1) 10 (.int .i64 ro) (by repeat (first | with_reducible exact List.mem_cons_self | with_reducible apply List.mem_cons_of_mem))
  have lt := cell_lt ct0
  go_wp2_with fail
  clear ct0 ct1 ct2 ct3 ct4 ct5 ct6 ct7 ct8 ct9 ct10 lt
  (with_reducible refine (OT.out _ (H.factsT (by repeat (first | with_reducible exact List.mem_cons_self | with_reducible apply List.mem_cons_of_mem)))).mono ?_)
  rintro e w4 ⟨aA, cA, rfl, hd, hb⟩
  replace H := (H.below hb).add (f := daysF aA (ld D) D.length cA) hd
  clear hb hd
  have ct0 := H.cell (w.heap.size + 1) 0 (.int .i64 mo) (by repeat (first | with_reducible exact List.mem_cons_self | with_reducible apply List.mem_cons_of_mem))
  have ct1 := H.cell (w.heap.size + 1) 1 (.int .i64 ra) (by repeat (first | with_reducible exact List.mem_cons_self | with_reducible apply List.mem_cons_of_mem))
  have ct2 := H.cell (w.heap.size + 1) 2 (.int .i64 ki) (by repeat (first | with_reducible exact List.mem_cons_self | with_reducible apply List.mem_cons_of_mem))
  have ct3 := H.cell (w.heap.size + 1) 3 (.int .i64 co) (by repeat (first | with_reducible exact List.mem_cons_self | with_reducible apply List.mem_cons_of_mem))
  have ct4 := H.cell (w.heap.size + 1) 4 (.int .i64 st) (by repeat (first | with_reducible exact List.mem_cons_self | with_reducible apply List.mem_cons_of_mem))
  have ct5 := H.cell (w.heap.size + 1) 5 (.int .i64 en) (by repeat (first | with_reducible exact List.mem_cons_self | with_reducible apply List.mem_cons_of_mem))
  have ct6 := H.cell (w.heap.size + 1) 6 (.int .i64 ms) (by repeat (first | with_reducible exact List.mem_cons_self | with_reducible apply List.mem_cons_of_mem))
  have ct7 := H.cell (w.heap.size + 1) 7 (.bool true) (by repeat (first | with_reducible exact List.mem_cons_self | with_reducible apply List.mem_cons_of_mem))
  have ct8 := H.cell (w.heap.size + 1) 8 (.bool lg) (by repeat (first | with_reducible exact List.mem_cons_self | with_reducible apply List.mem_cons_of_mem))
  have ct9 := H.cell (w.heap.size + 1) 9 (.bool eo) (by repeat (first | with_reducible exact List.mem_cons_self | with_reducible apply List.mem_cons_of_mem))
  have ct10 := H.cell (w.heap.size + 1) 10 (.int .i64 ro) (by repeat (first | with_reducible exact List.mem_cons_self | with_reducible apply List.mem_cons_of_mem))
  have lt := cell_lt ct0
  go_wp2_with fail
  clear ct0 ct1 ct2 ct3 ct4 ct5 ct6 ct7 ct8 ct9 ct10 lt
  replace H := H.box_11 (w4.heap.size) (.int .i64 (1 + o)) (.int .i64 o) (.int .i64 k3) (.int .i64 c7) (.int .i64 st) (.int .i64 en) (.int .i64 ms) (.bool true) (.bool lg) (.bool eo) (.int .i64 y5) 23 rfl
  (with_reducible refine (OS.out _ (H.factsT (by repeat (first | with_reducible exact List.mem_cons_self | with_reducible apply List.mem_cons_of_mem)))).mono ?_)
  rintro e w5 ⟨aB, cB, rfl, hd, hb⟩
  replace H := (H.below hb).add (f := daysF aB (ld D) D.length cB) hd
  clear hb hd
  have ct0 := H.cell (w.heap.size + 1) 0 (.int .i64 mo) (by repeat (first | with_reducible exact List.mem_cons_self | with_reducible apply List.mem_cons_of_mem))
  have ct1 := H.cell (w.heap.size + 1) 1 (.int .i64 ra) (by repeat (first | with_reducible exact List.mem_cons_self | with_reducible apply List.mem_cons_of_mem))
  have ct2 := H.cell (w.heap.size + 1) 2 (.int .i64 ki) (by repeat (first | with_reducible exact List.mem_cons_self | with_reducible apply List.mem_cons_of_mem))
  have ct3 := H.cell (w.heap.size + 1) 3 (.int .i64 co) (by repeat (first | with_reducible exact List.mem_cons_self | with_reducible apply List.mem_cons_of_mem))
  have ct4 := H.cell (w.heap.size + 1) 4 (.int .i64 st) (by repeat (first | with_reducible exact List.mem_cons_self | with_reducible apply List.mem_cons_of_mem))
  have ct5 := H.cell (w.heap.size + 1) 5 (.int .i64 en) (by repeat (first | with_reducible exact List.mem_cons_self | with_reducible apply List.mem_cons_of_mem))
  have ct6 := H.cell (w.heap.size + 1) 6 (.int .i64 ms) (by repeat (first | with_reducible exact List.mem_cons_self | with_reducible apply List.mem_cons_of_mem))
  have ct7 := H.cell (w.heap.size + 1) 7 (.bool true) (by repeat (first | with_reducible exact List.mem_cons_self | with_reducible apply List.mem_cons_of_mem))
  have ct8 := H.cell (w.heap.size + 1) 8 (.bool lg) (by repeat (first | with_reducible exact List.mem_cons_self | with_reducible apply List.mem_cons_of_mem))
  have ct9 := H.cell (w.heap.size + 1) 9 (.bool eo) (by repeat (first | with_reducible exact List.mem_cons_self | with_reducible apply List.mem_cons_of_mem))
  have ct10 := H.cell (w.heap.size + 1) 10 (.int .i64 ro) (by repeat (first | with_reducible exact List.mem_cons_self | with_reducible apply List.mem_cons_of_mem))
  have lt := cell_lt ct0
  go_wp2_with fail
  clear ct0 ct1 ct2 ct3 ct4 ct5 ct6 ct7 ct8 ct9 ct10 lt
  replace H := H.box_11 (w5.heap.size) (.int .i64 mo) (.int .i64 ra) (.int .i64 ki) (.int .i64 co) (.int .i64 st) (.int .i64 en) (.int .i64 ms) (.bool true) (.bool lg) (.bool (!eo)) (.int .i64 ro) 23 rfl
  (with_reducible refine (OU.out _ (H.factsT (by repeat (first | with_reducible exact List.mem_cons_self | with_reducible apply List.mem_cons_of_mem)))).mono ?_)
  rintro e w6 ⟨aC, cC, rfl, hd, hb⟩
  replace H := (H.below hb).add (f := daysF aC (ld D2) D2.length cC) hd
  clear hb hd
  have ct0 := H.cell (w.heap.size + 1) 0 (.int .i64 mo) (by repeat (first | with_reducible exact List.mem_cons_self | with_reducible apply List.mem_cons_of_mem))
  have ct1 := H.cell (w.heap.size + 1) 1 (.int .i64 ra) (by repeat (first | with_reducible exact List.mem_cons_self | with_reducible apply List.mem_cons_of_mem))
  have ct2 := H.cell (w.heap.size + 1) 2 (.int .i64 ki) (by repeat (first | with_reducible exact List.mem_cons_self | with_reducible apply List.mem_cons_of_mem))
  have ct3 := H.cell (w.heap.size + 1) 3 (.int .i64 co) (by repeat (first | with_reducible exact List.mem_cons_self | with_reducible apply List.mem_cons_of_mem))
  have ct4 := H.cell (w.heap.size + 1) 4 (.int .i64 st) (by repeat (first | with_reducible exact List.mem_cons_self | with_reducible apply List.mem_cons_of_mem))
  have ct5 := H.cell (w.heap.size + 1) 5 (.int .i64 en) (by repeat (first | with_reducible exact List.mem_cons_self | with_reducible apply List.mem_cons_of_mem))
  have ct6 := H.cell (w.heap.size + 1) 6 (.int .i64 ms) (by repeat (first | with_reducible exact List.mem_cons_self | with_reducible apply List.mem_cons_of_mem))
  have ct7 := H.cell (w.heap.size + 1) 7 (.bool true) (by repeat (first | with_reducible exact List.mem_cons_self | with_reducible apply List.mem_cons_of_mem))
  have ct8 := H.cell (w.heap.size + 1) 8 (.bool lg) (by repeat (first | with_reducible exact List.mem_cons_self | with_reducible apply List.mem_cons_of_mem))
  have ct9 := H.cell (w.heap.size + 1) 9 (.bool eo) (by repeat (first | with_reducible exact List.mem_cons_self | with_reducible apply List.mem_cons_of_mem))
  have ct10 := H.cell (w.heap.size + 1) 10 (.int .i64 ro) (by repeat (first | with_reducible exact List.mem_cons_self | with_reducible apply List.mem_cons_of_mem))
  have lt := cell_lt ct0
  go_wp2_with fail
  clear ct0 ct1 ct2 ct3 ct4 ct5 ct6 ct7 ct8 ct9 ct10 lt
  (with_reducible refine (LS.out _).mono ?_)
  rintro e w7 ⟨rfl, hb⟩
  replace H := H.below hb
  clear hb
  go_wp2_with fail
  (with_reducible refine (rrow_yes aA D.length cA (ld D) aB cB (ld D) _ (by omega) (H.days (ao := aA) (X := ld D) (n := D.length) (cap := cA) (by repeat (first | with_reducible exact List.mem_cons_self | with_reducible apply List.mem_cons_of_mem))) (H.days (ao := aB) (X := ld D) (n := D.length) (cap := cB) (by repeat (first | with_reducible exact List.mem_cons_self | with_reducible apply List.mem_cons_of_mem))) (fun _ _ => rfl)).mono ?_)
  rintro e w8 ⟨rfl, hb⟩
  replace H := H.below hb
  clear hb
  go_wp2
  go_ret
  exact ⟨rfl, H.old⟩
theorem dturn_walk (mo ra ki co st en ms : Int) (bk lg eo : Bool) (ro : Int) (k c y o : Int) (w : World) (hL : FactsT w) (b1 : 0 ≤ k ∧ k < 256) (b2 : 0 ≤ c ∧ c < 256) (b3 : 0 ≤ y ∧ y < 256) (b4 : 0 ≤ o ∧ o < 65536) : Calls Tryz.prog 8 #[.agg #[.int .i64 mo, .int .i64 ra, .int .i64 ki, .int .i64 co, .int .i64 st, .int .i64 en, .int .i64 ms, .bool bk, .bool lg, .bool eo, .int .i64 ro, .int .u8 k, .int .u8 c, .int .u8 y, .int .u16 o]] w fun e w' => e = .returned (.bool true) ∧ Below w.heap.size w w' := by
  by_cases hc : (Tm.mk mo ra ki co st en ms bk lg eo ro).code = 0
  · by_cases hs : en - st ≤ 3100
    · cases bk
      · obtain ⟨l, hl⟩ := last_is st
        cases l
        · exact dturn_false_false mo ra ki co st en ms lg eo ro k c y o w hL hc hs hl b1 b2 b3 b4
        · exact dturn_false_true mo ra ki co st en ms lg eo ro k c y o w hL hc hs hl b1 b2 b3 b4
      · obtain ⟨l, hl⟩ := last_is en
        cases l
        · exact dturn_true_false mo ra ki co st en ms lg eo ro k c y o w hL hc hs hl b1 b2 b3 b4
        · exact dturn_true_true mo ra ki co st en ms lg eo ro k c y o w hL hc hs hl b1 b2 b3 b4
    · exact dturn_far mo ra ki co st en ms bk lg eo ro k c y o w hL hc (by omega)
  · exact dturn_no mo ra ki co st en ms bk lg eo ro k c y o _ w hL rfl hc
end Go.Proofs.YtjijgcgbnmobfaaGreatDoor
