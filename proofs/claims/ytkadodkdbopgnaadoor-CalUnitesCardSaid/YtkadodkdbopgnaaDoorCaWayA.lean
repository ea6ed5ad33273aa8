/- Package cal: which calendars may be. -/
import Derived.Test.YtkadodkdbopgnaaDoorCaShown
import Derived.Test.YtkadodkdbopgnaaDoorRuWays
import Derived.ChangeKeysEq
namespace Go.Proofs.YtkadodkdbopgnaaDoor
open Go.RowKit
set_option linter.unusedVariables false
set_option linter.unusedSimpArgs false

theorem cday_is (n : Int) (b : Bool) (w : World) (h : decide (1 ≤ n ∧ n ≤ 3652059) = b) : Calls Tryd.prog 28 #[.int .i64 n] w fun e w' => e = .returned (.bool b) ∧ w = w' := by
  have HB := Lib.hid h
  clear h
  go_enter Tryd.func28, Tryd.ntmps28
  go_wp2
  all_goals (go_ret; refine ⟨retB ?_, rfl⟩; rw [← HB.out]; rw [Bool.eq_iff_iff]; (try simp only [ge_iff_le, Bool.and_eq_true, decide_eq_true_eq, Bool.false_eq_true, false_iff, true_iff]); omega)
theorem Held.factsVl {w W : World} {fs : List Fact} (h : Held w fs W) (hm : factsVF ∈ fs) : Lens W := (h.factsV hm).1
theorem Held.calR {w W : World} {fs : List Fact} {c : Ca} {aR : Option Addr} {cR : Nat} {aD : Option Addr} {cD : Nat} (h : Held w fs W) (hm : calF c aR cR aD cD ∈ fs) : RulesAt W aR c.R c.nr cR := (h.cal hm).1
theorem Held.calD {w W : World} {fs : List Fact} {c : Ca} {aR : Option Addr} {cR : Nat} {aD : Option Addr} {cD : Nat} (h : Held w fs W) (hm : calF c aR cR aD cD ∈ fs) : DaysAt W aD c.X c.nd cD := (h.cal hm).2
theorem Held.factsVu {w W : World} {fs : List Fact} (h : Held w fs W) (hm : factsVF ∈ fs) : FactsU W := (h.factsV hm).1
def rulesF (ao : Option Addr) (R : Nat → Ru) (n cap : Nat) : Fact := .that (fun W => RulesAt W ao R n cap) (fun _ _ hb h => h.below hb)
theorem Held.rules {w W : World} {fs : List Fact} {ao : Option Addr} {R : Nat → Ru} {n cap : Nat} (h : Held w fs W) (hm : rulesF ao R n cap ∈ fs) : RulesAt W ao R n cap := h.all _ hm
def daysF (ao : Option Addr) (X : Nat → Int) (n cap : Nat) : Fact := .that (fun W => DaysAt W ao X n cap) (fun _ _ hb h => h.below hb)
theorem Held.days {w W : World} {fs : List Fact} {ao : Option Addr} {X : Nat → Int} {n cap : Nat} (h : Held w fs W) (hm : daysF ao X n cap ∈ fs) : DaysAt W ao X n cap := h.all _ hm
theorem Ru.mb_iff {r : Ru} : r.mb = true ↔ r.May := by unfold Ru.mb; exact decide_eq_true_iff
theorem Held.dropN {w W : World} {fs : List Fact} (h : Held w fs W) (k : Nat) : Held w (fs.drop k) W := h.sub (fun f hf => List.mem_of_mem_drop hf)
theorem Ru.mb_not {r : Ru} (h : r.mb = false) : ¬ r.May := fun g => by rw [Ru.mb_iff.2 g] at h; cases h
set_option maxHeartbeats 4000000 in
theorem cmayr_is (ao : Option Addr) (R : Nat → Ru) (n cap : Nat) (b : Bool) (w : World) (hL : FactsV w) (hn : n ≤ 200) (hC : RulesAt w ao R n cap) (h : b = true ↔ n ≤ 100 ∧ ∀ j, j < n → (R j).May) : Calls Tryd.prog 26 #[.slice ao n cap] w fun e w' => e = .returned (.bool b) ∧ Below w.heap.size w w' := by
  have H := ((Held.start w).add (f := factsVF) hL).add (f := rulesF ao R n cap) hC
  have HB := Lib.hid h
  clear h hC hL
  go_enter Tryd.func26, Tryd.ntmps26
  by_cases hr : n ≤ 100
  · go_wp2_with fail
    go_loopw [10] (fun i W' => ∃ j : Nat, j ≤ n ∧ i = .int .i64 j ∧ (∀ l, l < j → (R l).May) ∧ Held w (rulesF ao R n cap :: factsVF :: []) W') (fun i _ => n - (intOf i).toNat)
    case atStart => exact ⟨0, by omega, rfl, fun l g => absurd g (Nat.not_lt_zero _), H⟩
    case round =>
      clear H
      obtain ⟨j, j1, rfl, hR, H⟩ := hrel
      have HR := Lib.hid hR
      clear hR
      by_cases hj : j < n
      · obtain ⟨bR, oR, rfl, hr2⟩ := (H.rules ((List.Mem.head _))).2 (by omega)
        obtain ⟨q0, q1, q2, q3, q4, q5, q6, q7⟩ := hr2 j hj
        clear hr2
        obtain ⟨x, hx⟩ : ∃ x, Ru.mb (R j) = x := ⟨_, rfl⟩
        have Q := Lib.hid (fun v (h : FactsU v) => umay_is (R j).k (R j).m (R j).d (R j).q (R j).o (R j).s (R j).f (R j).t x v h hx)
        have HX := Lib.hid hx
        clear hx
        go_wp2_with fail
        replace H := (H.oct (wr.heap.size) (.int .i64 (R j).k) (.int .i64 (R j).m) (.int .i64 (R j).d) (.int .i64 (R j).q) (.int .i64 (R j).o) (.int .i64 (R j).s) (.int .i64 (R j).f) (.int .i64 (R j).t) 51 rfl)
        (with_reducible refine (Q.out _ (H.factsVu ((List.Mem.tail _ (List.Mem.tail _ (List.Mem.tail _ (List.Mem.tail _ (List.Mem.tail _ (List.Mem.tail _ (List.Mem.tail _ (List.Mem.tail _ (List.Mem.tail _ (List.Mem.tail _ (List.Mem.tail _ (List.Mem.tail _ (List.Mem.tail _ (List.Mem.tail _ (List.Mem.tail _ (List.Mem.tail _ (List.Mem.tail _ (List.Mem.head _))))))))))))))))))))).mono ?_)
        rintro e w2 ⟨rfl, hb⟩
        replace H := H.below hb
        clear hb q0 q1 q2 q3 q4 q5 q6 q7 Q
        cases x with
        | true =>
          go_wp2
          go_roundw
          case rel => exact ⟨j + 1, by omega, by go_num, fun l g => by
            by_cases e : l = j
            · subst e; exact Ru.mb_iff.1 HX.out
            · exact HR.out l (by omega), H.dropN 16⟩
          case measure => simp [intOf]; omega
        | false =>
          have e : b = false := bool_not HB.out (fun g => Ru.mb_not HX.out (g.2 j hj))
          subst e
          go_wp2
          go_ret
          exact ⟨rfl, H.old⟩
      · obtain rfl : j = n := by omega
        have e : b = true := HB.out.2 ⟨hr, HR.out⟩
        subst e
        go_wp2
        go_ret
        exact ⟨rfl, H.old⟩
  · have e : b = false := bool_not HB.out (fun g => hr g.1)
    subst e
    go_wp2
    go_ret
    exact ⟨rfl, H.old⟩
set_option maxHeartbeats 4000000 in
theorem cmayd_is (ao : Option Addr) (X : Nat → Int) (n cap : Nat) (b : Bool) (w : World) (hL : FactsV w) (hn : n ≤ 2000) (hC : DaysAt w ao X n cap) (h : b = true ↔ n ≤ 1000 ∧ (∀ j, j < n → 1 ≤ X j ∧ X j ≤ 3652059) ∧ ∀ j, j + 1 < n → X j < X (j + 1)) : Calls Tryd.prog 27 #[.slice ao n cap] w fun e w' => e = .returned (.bool b) ∧ Below w.heap.size w w' := by
  have H := ((Held.start w).add (f := factsVF) hL).add (f := daysF ao X n cap) hC
  have HB := Lib.hid h
  clear h hC hL
  go_enter Tryd.func27, Tryd.ntmps27
  by_cases hr : n ≤ 1000
  · go_wp2_with fail
    go_loopw [10] (fun i W' => ∃ j : Nat, j ≤ n ∧ i = .int .i64 j ∧ (∀ l, l < j → 1 ≤ X l ∧ X l ≤ 3652059) ∧ (∀ l, l + 1 < j → X l < X (l + 1)) ∧ Held w (daysF ao X n cap :: factsVF :: []) W') (fun i _ => n - (intOf i).toNat)
    case atStart => exact ⟨0, by omega, rfl, fun l g => absurd g (Nat.not_lt_zero _), fun l g => absurd g (Nat.not_lt_zero _), H⟩
    case round =>
      clear H
      obtain ⟨j, j1, rfl, hR, hS, H⟩ := hrel
      have HR := Lib.hid hR
      have HS := Lib.hid hS
      clear hR hS
      by_cases hj : j < n
      · obtain ⟨bD, oD, rfl, hd⟩ := (H.days ((List.Mem.head _))).2 (by omega)
        have kd := hd j hj
        by_cases hx : 1 ≤ X j ∧ X j ≤ 3652059
        · have C := Lib.hid (fun v => cday_is (X j) true v (decide_eq_true hx))
          by_cases h0 : 0 < j
          · have kp := hd (j - 1) (by omega)
            have e1 : (j : Int) - 1 = ((j - 1 : Nat) : Int) := by omega
            have t0 : decide ((j : Int) > 0) = true := decide_eq_true (by omega)
            clear hd
            by_cases hlt : X (j - 1) < X j
            · have t1 : decide (X j ≤ X (j - 1)) = false := decide_eq_false (by omega)
              go_wp2_with fail
              (with_reducible refine (C.out _).mono ?_)
              rintro e w2 ⟨rfl, rfl⟩
              clear C
              go_wp2
              go_roundw
              case rel => exact ⟨j + 1, by omega, by go_num, fun l g => by
                by_cases e : l = j
                · subst e; exact hx
                · exact HR.out l (by omega), fun l g => by
                by_cases e : l + 1 = j
                · obtain rfl : l = j - 1 := by omega
                  rw [show j - 1 + 1 = j by omega]; exact hlt
                · exact HS.out l (by omega), H⟩
              case measure => simp [intOf]; omega
            · have t1 : decide (X j ≤ X (j - 1)) = true := decide_eq_true (by omega)
              have e : b = false := bool_not HB.out (fun g => hlt (by have := g.2.2 (j - 1) (by omega); rwa [show j - 1 + 1 = j by omega] at this))
              subst e
              go_wp2_with fail
              (with_reducible refine (C.out _).mono ?_)
              rintro e w2 ⟨rfl, rfl⟩
              clear C
              go_wp2
              go_ret
              exact ⟨rfl, H.old⟩
          · obtain rfl : j = 0 := by omega
            rw [Nat.add_zero] at kd
            go_wp2_with fail
            (with_reducible refine (C.out _).mono ?_)
            rintro e w2 ⟨rfl, rfl⟩
            clear C
            go_wp2
            go_roundw
            case rel => exact ⟨1, by omega, rfl, fun l g => by
              obtain rfl : l = 0 := by omega
              exact hx, fun l g => absurd g (by omega), H⟩
            case measure => simp [intOf]; omega
        · have C := Lib.hid (fun v => cday_is (X j) false v (decide_eq_false hx))
          have e : b = false := bool_not HB.out (fun g => hx (g.2.1 j hj))
          subst e
          go_wp2_with fail
          (with_reducible refine (C.out _).mono ?_)
          rintro e w2 ⟨rfl, rfl⟩
          go_wp2
          go_ret
          exact ⟨rfl, H.old⟩
      · obtain rfl : j = n := by omega
        have e : b = true := HB.out.2 ⟨hr, HR.out, HS.out⟩
        subst e
        go_wp2
        go_ret
        exact ⟨rfl, H.old⟩
  · have e : b = false := bool_not HB.out (fun g => hr g.1)
    subst e
    go_wp2
    go_ret
    exact ⟨rfl, H.old⟩
theorem eq_step (xs ys : Array Value) (i : Nat) (is : List Nat) (u v : Bool) (w : World) (hx : xs[i * 1]? = some (.bool u)) (hy : ys[i * 1]? = some (.bool v)) :
    Sem.run Tryd.prog (Op.eqItems 9999 4 1 xs ys (i :: is)) w = if (u == v) = true then Sem.run Tryd.prog (Op.eqItems 9999 4 1 xs ys is) w else .ok false w := by
  have hp : Tryd.prog.plainKey 4 = true := by kernel_rfl
  simp only [Op.eqItems, Sem.run_bind, run_part_plain w hp hx, run_part_plain w hp hy, Result.andThen_ok]
  rw [run_equalIn_bool' w 9998 4 u v Tryd.underlying4]
  cases (u == v) <;> simp
theorem eq7 (a b : Nat → Bool) (w : World) : Sem.run Tryd.prog (Op.equalIn 10000 22 (.agg #[.bool (a 0), .bool (a 1), .bool (a 2), .bool (a 3), .bool (a 4), .bool (a 5), .bool (a 6)]) (.agg #[.bool (b 0), .bool (b 1), .bool (b 2), .bool (b 3), .bool (b 4), .bool (b 5), .bool (b 6)])) w = .ok (a 0 == b 0 && (a 1 == b 1 && (a 2 == b 2 && (a 3 == b 3 && (a 4 == b 4 && (a 5 == b 5 && a 6 == b 6)))))) w := by
  obtain ⟨i0, hi⟩ := info_of_underlying Tryd.underlying4
  rw [run_equalIn_array w 9999 _ _ Tryd.underlying22 hi, show Tryd.prog.cellsOf 4 = 1 by kernel_rfl]
  show Sem.run _ (Op.eqItems 9999 _ 1 _ _ [0, 1, 2, 3, 4, 5, 6]) w = _
  rw [eq_step _ _ 0 _ (a 0) (b 0) w rfl rfl, eq_step _ _ 1 _ (a 1) (b 1) w rfl rfl, eq_step _ _ 2 _ (a 2) (b 2) w rfl rfl, eq_step _ _ 3 _ (a 3) (b 3) w rfl rfl, eq_step _ _ 4 _ (a 4) (b 4) w rfl rfl, eq_step _ _ 5 _ (a 5) (b 5) w rfl rfl, eq_step _ _ 6 _ (a 6) (b 6) w rfl rfl]
  have e0 : Sem.run Tryd.prog (Op.eqItems 9999 4 1 (#[.bool (a 0), .bool (a 1), .bool (a 2), .bool (a 3), .bool (a 4), .bool (a 5), .bool (a 6)]) (#[.bool (b 0), .bool (b 1), .bool (b 2), .bool (b 3), .bool (b 4), .bool (b 5), .bool (b 6)]) []) w = .ok true w := by simp [Op.eqItems]
  rw [e0]
  generalize (a 0 == b 0) = x0
  generalize (a 1 == b 1) = x1
  generalize (a 2 == b 2) = x2
  generalize (a 3 == b 3) = x3
  generalize (a 4 == b 4) = x4
  generalize (a 5 == b 5) = x5
  generalize (a 6 == b 6) = x6
  cases x0
  · rfl
  cases x1
  · rfl
  cases x2
  · rfl
  cases x3
  · rfl
  cases x4
  · rfl
  cases x5
  · rfl
  cases x6 <;> rfl
theorem eqw (a : Nat → Bool) (x : Bool) (h : x = true ↔ ∀ i, i < 7 → a i = true) (w : World) : Sem.run Tryd.prog (Op.equalIn 10000 22 (.agg #[.bool (a 0), .bool (a 1), .bool (a 2), .bool (a 3), .bool (a 4), .bool (a 5), .bool (a 6)]) (.agg #[.bool true, .bool true, .bool true, .bool true, .bool true, .bool true, .bool true])) w = .ok x w := by
  have key : (a 0 == true && (a 1 == true && (a 2 == true && (a 3 == true && (a 4 == true && (a 5 == true && a 6 == true)))))) = x := by
    rw [Bool.eq_iff_iff, h]
    simp only [Bool.and_eq_true, beq_iff_eq]
    constructor
    · rintro ⟨h0, h1, h2, h3, h4, h5, h6⟩ i hi
      match i, hi with
      | 0, _ => exact h0
      | 1, _ => exact h1
      | 2, _ => exact h2
      | 3, _ => exact h3
      | 4, _ => exact h4
      | 5, _ => exact h5
      | 6, _ => exact h6
    · intro g
      exact ⟨g 0 (by decide), g 1 (by decide), g 2 (by decide), g 3 (by decide), g 4 (by decide), g 5 (by decide), g 6 (by decide)⟩
  rw [← key]
  exact eq7 a (fun _ => true) w
set_option maxHeartbeats 4000000 in
set_option maxRecDepth 100000 in
theorem cmay_is (c : Ca) (aR : Option Addr) (cR : Nat) (aD : Option Addr) (cD : Nat) (b : Bool) (w : World) (hL : FactsV w) (hS : c.Small) (hC : CalAt w c aR cR aD cD) (h : b = true ↔ c.May) : Calls Tryd.prog 14 #[.agg #[.bool (c.o 0), .bool (c.o 1), .bool (c.o 2), .bool (c.o 3), .bool (c.o 4), .bool (c.o 5), .bool (c.o 6), .slice aR c.nr cR, .slice aD c.nd cD]] w fun e w' => e = .returned (.bool b) ∧ Below w.heap.size w w' := by
  have H := ((Held.start w).add (f := factsVF) hL).add (f := calF c aR cR aD cD) hC
  have HB := Lib.hid h
  clear h hC hL
  go_enter Tryd.func14, Tryd.ntmps14
  replace H := H.box_9 (w.heap.size) (.bool (c.o 0)) (.bool (c.o 1)) (.bool (c.o 2)) (.bool (c.o 3)) (.bool (c.o 4)) (.bool (c.o 5)) (.bool (c.o 6)) (.slice aR c.nr cR) (.slice aD c.nd cD) 26 rfl
  have k0 := H.cell (w.heap.size) 0 (.bool (c.o 0)) (List.Mem.head _)
  have k1 := H.cell (w.heap.size) 1 (.bool (c.o 1)) (List.Mem.tail _ (List.Mem.head _))
  have k2 := H.cell (w.heap.size) 2 (.bool (c.o 2)) (List.Mem.tail _ (List.Mem.tail _ (List.Mem.head _)))
  have k3 := H.cell (w.heap.size) 3 (.bool (c.o 3)) (List.Mem.tail _ (List.Mem.tail _ (List.Mem.tail _ (List.Mem.head _))))
  have k4 := H.cell (w.heap.size) 4 (.bool (c.o 4)) (List.Mem.tail _ (List.Mem.tail _ (List.Mem.tail _ (List.Mem.tail _ (List.Mem.head _)))))
  have k5 := H.cell (w.heap.size) 5 (.bool (c.o 5)) (List.Mem.tail _ (List.Mem.tail _ (List.Mem.tail _ (List.Mem.tail _ (List.Mem.tail _ (List.Mem.head _))))))
  have k6 := H.cell (w.heap.size) 6 (.bool (c.o 6)) (List.Mem.tail _ (List.Mem.tail _ (List.Mem.tail _ (List.Mem.tail _ (List.Mem.tail _ (List.Mem.tail _ (List.Mem.head _)))))))
  have k7 := H.cell (w.heap.size) 7 (.slice aR c.nr cR) (List.Mem.tail _ (List.Mem.tail _ (List.Mem.tail _ (List.Mem.tail _ (List.Mem.tail _ (List.Mem.tail _ (List.Mem.tail _ (List.Mem.head _))))))))
  have k8 := H.cell (w.heap.size) 8 (.slice aD c.nd cD) (List.Mem.tail _ (List.Mem.tail _ (List.Mem.tail _ (List.Mem.tail _ (List.Mem.tail _ (List.Mem.tail _ (List.Mem.tail _ (List.Mem.tail _ (List.Mem.head _)))))))))
  have FV := (H.factsV ((List.Mem.tail _ (List.Mem.tail _ (List.Mem.tail _ (List.Mem.tail _ (List.Mem.tail _ (List.Mem.tail _ (List.Mem.tail _ (List.Mem.tail _ (List.Mem.tail _ (List.Mem.tail _ (List.Mem.tail _ (List.Mem.tail _ (List.Mem.tail _ (List.Mem.tail _ (List.Mem.tail _ (List.Mem.tail _ (List.Mem.tail _ (List.Mem.tail _ (List.Mem.tail _ (List.Mem.head _)))))))))))))))))))))).2
  have z0 := FV 0 (by decide)
  have z1 := FV 1 (by decide)
  have z2 := FV 2 (by decide)
  have z3 := FV 3 (by decide)
  have z4 := FV 4 (by decide)
  have z5 := FV 5 (by decide)
  have z6 := FV 6 (by decide)
  have zl := cell_lt z0
  clear FV
  obtain ⟨x, hx⟩ := bool_of (∀ i, i < 7 → c.o i = true)
  have EQ := eqw c.o x hx
  have HX := Lib.hid hx
  clear hx
  have sr : c.nr ≤ 200 := hS.1
  have sd : c.nd ≤ 2000 := hS.2
  clear hS
  cases x with
  | true =>
    have e : b = false := bool_not HB.out (fun g => by
      obtain ⟨i, hi, e⟩ := g.1
      rw [HX.out.1 rfl i hi] at e
      cases e)
    subst e
    go_wp2
    go_ret
    exact ⟨rfl, H.old⟩
  | false =>
    have KC := H.cal ((List.Mem.tail _ (List.Mem.tail _ (List.Mem.tail _ (List.Mem.tail _ (List.Mem.tail _ (List.Mem.tail _ (List.Mem.tail _ (List.Mem.tail _ (List.Mem.tail _ (List.Mem.tail _ (List.Mem.tail _ (List.Mem.tail _ (List.Mem.tail _ (List.Mem.tail _ (List.Mem.tail _ (List.Mem.tail _ (List.Mem.tail _ (List.Mem.tail _ (List.Mem.head _))))))))))))))))))))
    obtain ⟨y, hy⟩ := bool_of (c.nr ≤ 100 ∧ ∀ j, j < c.nr → (c.R j).May)
    obtain ⟨z, hz⟩ := bool_of (c.nd ≤ 1000 ∧ (∀ j, j < c.nd → 1 ≤ c.X j ∧ c.X j ≤ 3652059) ∧ ∀ j, j + 1 < c.nd → c.X j < c.X (j + 1))
    have Q1 := Lib.hid (fun v (h : FactsV v) (k : RulesAt v aR c.R c.nr cR) => cmayr_is aR c.R c.nr cR y v h sr k hy)
    have Q2 := Lib.hid (fun v (h : FactsV v) (k : DaysAt v aD c.X c.nd cD) => cmayd_is aD c.X c.nd cD z v h sd k hz)
    have HY := Lib.hid hy
    have HZ := Lib.hid hz
    have HE : Hid (∃ i, i < 7 ∧ c.o i = false) := Lib.hid (by
      apply Classical.byContradiction
      intro g
      have : ∀ i, i < 7 → c.o i = true := fun i hi => by
        cases hc : c.o i
        · exact absurd ⟨i, hi, hc⟩ g
        · rfl
      exact absurd (HX.out.2 this) (by decide))
    clear hy hz
    go_wp2_with fail
    (with_reducible refine (Q1.out _ (H.factsV ((List.Mem.tail _ (List.Mem.tail _ (List.Mem.tail _ (List.Mem.tail _ (List.Mem.tail _ (List.Mem.tail _ (List.Mem.tail _ (List.Mem.tail _ (List.Mem.tail _ (List.Mem.tail _ (List.Mem.tail _ (List.Mem.tail _ (List.Mem.tail _ (List.Mem.tail _ (List.Mem.tail _ (List.Mem.tail _ (List.Mem.tail _ (List.Mem.tail _ (List.Mem.tail _ (List.Mem.head _)))))))))))))))))))))) (H.calR ((List.Mem.tail _ (List.Mem.tail _ (List.Mem.tail _ (List.Mem.tail _ (List.Mem.tail _ (List.Mem.tail _ (List.Mem.tail _ (List.Mem.tail _ (List.Mem.tail _ (List.Mem.tail _ (List.Mem.tail _ (List.Mem.tail _ (List.Mem.tail _ (List.Mem.tail _ (List.Mem.tail _ (List.Mem.tail _ (List.Mem.tail _ (List.Mem.tail _ (List.Mem.head _)))))))))))))))))))))).mono ?_)
    rintro e w1 ⟨rfl, hb⟩
    replace H := H.below hb
    clear hb Q1 EQ KC z0 z1 z2 z3 z4 z5 z6 zl k0 k1 k2 k3 k4 k5 k6 k7 k8
    cases y with
    | false =>
      have e : b = false := bool_not HB.out (fun g => absurd (HY.out.2 ⟨g.2.1, g.2.2.2.1⟩) (by decide))
      subst e
      go_wp2
      go_ret
      exact ⟨rfl, H.old⟩
    | true =>
      have k0 := H.cell (w.heap.size) 0 (.bool (c.o 0)) (List.Mem.head _)
      have k1 := H.cell (w.heap.size) 1 (.bool (c.o 1)) (List.Mem.tail _ (List.Mem.head _))
      have k2 := H.cell (w.heap.size) 2 (.bool (c.o 2)) (List.Mem.tail _ (List.Mem.tail _ (List.Mem.head _)))
      have k3 := H.cell (w.heap.size) 3 (.bool (c.o 3)) (List.Mem.tail _ (List.Mem.tail _ (List.Mem.tail _ (List.Mem.head _))))
      have k4 := H.cell (w.heap.size) 4 (.bool (c.o 4)) (List.Mem.tail _ (List.Mem.tail _ (List.Mem.tail _ (List.Mem.tail _ (List.Mem.head _)))))
      have k5 := H.cell (w.heap.size) 5 (.bool (c.o 5)) (List.Mem.tail _ (List.Mem.tail _ (List.Mem.tail _ (List.Mem.tail _ (List.Mem.tail _ (List.Mem.head _))))))
      have k6 := H.cell (w.heap.size) 6 (.bool (c.o 6)) (List.Mem.tail _ (List.Mem.tail _ (List.Mem.tail _ (List.Mem.tail _ (List.Mem.tail _ (List.Mem.tail _ (List.Mem.head _)))))))
      have k7 := H.cell (w.heap.size) 7 (.slice aR c.nr cR) (List.Mem.tail _ (List.Mem.tail _ (List.Mem.tail _ (List.Mem.tail _ (List.Mem.tail _ (List.Mem.tail _ (List.Mem.tail _ (List.Mem.head _))))))))
      have k8 := H.cell (w.heap.size) 8 (.slice aD c.nd cD) (List.Mem.tail _ (List.Mem.tail _ (List.Mem.tail _ (List.Mem.tail _ (List.Mem.tail _ (List.Mem.tail _ (List.Mem.tail _ (List.Mem.tail _ (List.Mem.head _)))))))))
      go_wp2_with fail
      (with_reducible refine (Q2.out _ (H.factsV ((List.Mem.tail _ (List.Mem.tail _ (List.Mem.tail _ (List.Mem.tail _ (List.Mem.tail _ (List.Mem.tail _ (List.Mem.tail _ (List.Mem.tail _ (List.Mem.tail _ (List.Mem.tail _ (List.Mem.tail _ (List.Mem.tail _ (List.Mem.tail _ (List.Mem.tail _ (List.Mem.tail _ (List.Mem.tail _ (List.Mem.tail _ (List.Mem.tail _ (List.Mem.tail _ (List.Mem.head _)))))))))))))))))))))) (H.calD ((List.Mem.tail _ (List.Mem.tail _ (List.Mem.tail _ (List.Mem.tail _ (List.Mem.tail _ (List.Mem.tail _ (List.Mem.tail _ (List.Mem.tail _ (List.Mem.tail _ (List.Mem.tail _ (List.Mem.tail _ (List.Mem.tail _ (List.Mem.tail _ (List.Mem.tail _ (List.Mem.tail _ (List.Mem.tail _ (List.Mem.tail _ (List.Mem.tail _ (List.Mem.head _)))))))))))))))))))))).mono ?_)
      rintro e w2 ⟨rfl, hb⟩
      replace H := H.below hb
      have e : b = z := by
        rw [Bool.eq_iff_iff, HB.out, HZ.out]
        constructor
        · intro g
          exact ⟨g.2.2.1, g.2.2.2.2⟩
        · intro g
          have y1 := HY.out.1 (by first | rfl | trivial)
          exact ⟨HE.out, y1.1, g.1, y1.2, g.2⟩
      subst e
      clear hb Q2 k0 k1 k2 k3 k4 k5 k6 k7 k8
      go_wp2
      go_ret
      exact ⟨rfl, H.old⟩
end Go.Proofs.YtkadodkdbopgnaaDoor
