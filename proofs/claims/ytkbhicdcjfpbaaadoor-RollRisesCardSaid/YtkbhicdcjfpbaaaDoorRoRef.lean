/- The reference of layer 14: the next day of business, the last one, days rolled by each way, names. -/
import Derived.Test.YtkbhicdcjfpbaaaDoorRoFacts
namespace Go.Proofs.YtkbhicdcjfpbaaaDoor
open Go.RowKit
set_option linter.unusedVariables false
set_option linter.unusedSimpArgs false


set_option maxHeartbeats 4000000 in
theorem rstep_pno (c : Ca) (aR : Option Addr) (cR : Nat) (aD : Option Addr) (cD : Nat) (n : Int)  (w : World) (hS : c.Small) (hM : ∀ j, j < c.nr → (c.R j).May) (hC : CalAt w c aR cR aD cD) (hn : ¬ dy n) : Calls Tryd.prog 33 #[.agg #[.bool (c.o 0), .bool (c.o 1), .bool (c.o 2), .bool (c.o 3), .bool (c.o 4), .bool (c.o 5), .bool (c.o 6), .slice aR c.nr cR, .slice aD c.nd cD], .int .i64 n, .int .i64 (1)] w fun e' w' => e' = .returned (.tuple #[.int .i64 0, .int .i64 3]) ∧ Below w.heap.size w w' := by
  have H := (Held.start w).add (f := calF c aR cR aD cD) hC
  have C1 := Lib.hid (fun v => rday13_is n false v (decide_eq_false hn))
  clear hn hS hM hC
  go_enter Tryd.func33, Tryd.ntmps33
  replace H := H.box_9 (w.heap.size) (.bool (c.o 0)) (.bool (c.o 1)) (.bool (c.o 2)) (.bool (c.o 3)) (.bool (c.o 4)) (.bool (c.o 5)) (.bool (c.o 6)) (.slice aR c.nr cR) (.slice aD c.nd cD) 26 rfl
  go_wp2_with fail
  (with_reducible refine (C1.out _).mono ?_)
  rintro e w1 ⟨rfl, rfl⟩
  go_wp2
  go_ret2
  exact ⟨rfl, H.old⟩

set_option maxHeartbeats 4000000 in
theorem rstep_pyes (c : Ca) (aR : Option Addr) (cR : Nat) (aD : Option Addr) (cD : Nat) (n : Int) (k : Nat) (w : World) (hS : c.Small) (hM : ∀ j, j < c.nr → (c.R j).May) (hC : CalAt w c aR cR aD cD) (hn : dy n) (hk : k ≤ 60) (hi : c.Is (n + k)) (hno : ∀ l : Nat, l < k → ¬ c.Is (n + l)) : Calls Tryd.prog 33 #[.agg #[.bool (c.o 0), .bool (c.o 1), .bool (c.o 2), .bool (c.o 3), .bool (c.o 4), .bool (c.o 5), .bool (c.o 6), .slice aR c.nr cR, .slice aD c.nd cD], .int .i64 n, .int .i64 (1)] w fun e' w' => e' = .returned (.tuple #[.int .i64 (n + k), .int .i64 0]) ∧ Below w.heap.size w w' := by
  have H := (Held.start w).add (f := calF c aR cR aD cD) hC
  have HI := Lib.hid hi
  have HN := Lib.hid hno
  clear hi hno
  have C1 := Lib.hid (fun v => rday13_is n true v (decide_eq_true hn))
  have HS := Lib.hid hS
  have HM := Lib.hid hM
  obtain ⟨n1, n2⟩ := hn
  clear hS hM hC
  go_enter Tryd.func33, Tryd.ntmps33
  replace H := H.box_9 (w.heap.size) (.bool (c.o 0)) (.bool (c.o 1)) (.bool (c.o 2)) (.bool (c.o 3)) (.bool (c.o 4)) (.bool (c.o 5)) (.bool (c.o 6)) (.slice aR c.nr cR) (.slice aD c.nd cD) 26 rfl
  go_wp2_with fail
  (with_reducible refine (C1.out _).mono ?_)
  rintro e w1 ⟨rfl, rfl⟩
  go_wp2_with fail
  go_loopw [9, 10] (fun u i W' => ∃ (j : Nat) (x : Bool), j ≤ k ∧ i = .int .i64 j ∧ u = .bool x ∧ Held w (.cell (w.heap.size) 0 (.bool (c.o 0)) :: .cell (w.heap.size) 1 (.bool (c.o 1)) :: .cell (w.heap.size) 2 (.bool (c.o 2)) :: .cell (w.heap.size) 3 (.bool (c.o 3)) :: .cell (w.heap.size) 4 (.bool (c.o 4)) :: .cell (w.heap.size) 5 (.bool (c.o 5)) :: .cell (w.heap.size) 6 (.bool (c.o 6)) :: .cell (w.heap.size) 7 (.slice aR c.nr cR) :: .cell (w.heap.size) 8 (.slice aD c.nd cD) :: .free (w.heap.size) 0 :: .free (w.heap.size) 1 :: .free (w.heap.size) 2 :: .free (w.heap.size) 3 :: .free (w.heap.size) 4 :: .free (w.heap.size) 5 :: .free (w.heap.size) 6 :: .free (w.heap.size) 7 :: .free (w.heap.size) 8 :: calF c aR cR aD cD :: []) W') (fun _ i _ => 61 - (intOf i).toNat)
  case atStart => exact ⟨0, false, by omega, rfl, rfl, H⟩
  case round =>
    clear H
    obtain ⟨j, x, j1, rfl, rfl, H⟩ := hrel
    have e1 : IntKind.i64.wrap ((j : Int) * 1) = j := by rw [IntWalk.i64_in _ (by omega)]; omega
    have e2 : n + j = n + j := by omega
    have k0 := H.cell (w.heap.size) 0 (.bool (c.o 0)) (List.Mem.head _)
    have k1 := H.cell (w.heap.size) 1 (.bool (c.o 1)) (List.Mem.tail _ (List.Mem.head _))
    have k2 := H.cell (w.heap.size) 2 (.bool (c.o 2)) (List.Mem.tail _ (List.Mem.tail _ (List.Mem.head _)))
    have k3 := H.cell (w.heap.size) 3 (.bool (c.o 3)) (List.Mem.tail _ (List.Mem.tail _ (List.Mem.tail _ (List.Mem.head _))))
    have k4 := H.cell (w.heap.size) 4 (.bool (c.o 4)) (List.Mem.tail _ (List.Mem.tail _ (List.Mem.tail _ (List.Mem.tail _ (List.Mem.head _)))))
    have k5 := H.cell (w.heap.size) 5 (.bool (c.o 5)) (List.Mem.tail _ (List.Mem.tail _ (List.Mem.tail _ (List.Mem.tail _ (List.Mem.tail _ (List.Mem.head _))))))
    have k6 := H.cell (w.heap.size) 6 (.bool (c.o 6)) (List.Mem.tail _ (List.Mem.tail _ (List.Mem.tail _ (List.Mem.tail _ (List.Mem.tail _ (List.Mem.tail _ (List.Mem.head _)))))))
    have k7 := H.cell (w.heap.size) 7 (.slice aR c.nr cR) (List.Mem.tail _ (List.Mem.tail _ (List.Mem.tail _ (List.Mem.tail _ (List.Mem.tail _ (List.Mem.tail _ (List.Mem.tail _ (List.Mem.head _))))))))
    have k8 := H.cell (w.heap.size) 8 (.slice aD c.nd cD) (List.Mem.tail _ (List.Mem.tail _ (List.Mem.tail _ (List.Mem.tail _ (List.Mem.tail _ (List.Mem.tail _ (List.Mem.tail _ (List.Mem.tail _ (List.Mem.head _)))))))))
    by_cases hj : j < k
    · have Q := Lib.hid (rcis_any c aR cR aD cD (n + j) false _ HS.out HM.out (H.cal ((List.Mem.tail _ (List.Mem.tail _ (List.Mem.tail _ (List.Mem.tail _ (List.Mem.tail _ (List.Mem.tail _ (List.Mem.tail _ (List.Mem.tail _ (List.Mem.tail _ (List.Mem.tail _ (List.Mem.tail _ (List.Mem.tail _ (List.Mem.tail _ (List.Mem.tail _ (List.Mem.tail _ (List.Mem.tail _ (List.Mem.tail _ (List.Mem.tail _ (List.Mem.head _))))))))))))))))))))) ⟨fun g => absurd g (by decide), fun g => absurd g (HN.out j hj)⟩)
      obtain ⟨d, hd⟩ : ∃ d, decide (1 ≤ (n + j) ∧ (n + j) ≤ 3652059) = d := ⟨_, rfl⟩
      have Q2 := Lib.hid (fun v => rday13_is (n + j) d v hd)
      clear hd
      go_wp2_with fail
      (with_reducible refine (Q.out).mono ?_)
      clear k0 k1 k2 k3 k4 k5 k6 k7 k8 Q
      rintro e w3 ⟨rfl, hb⟩
      replace H := H.below hb
      clear hb
      go_wp2_with fail
      (with_reducible refine (Q2.out _).mono ?_)
      rintro e w4 ⟨rfl, rfl⟩
      clear Q2
      cases x <;> cases d
      all_goals
        go_wp2
        go_roundw
        case rel => exact ⟨j + 1, _, by omega, by go_num, rfl, H⟩
        case measure => simp [intOf]; omega
    · obtain rfl : j = k := by omega
      have Q := Lib.hid (rcis_any c aR cR aD cD (n + j) true _ HS.out HM.out (H.cal ((List.Mem.tail _ (List.Mem.tail _ (List.Mem.tail _ (List.Mem.tail _ (List.Mem.tail _ (List.Mem.tail _ (List.Mem.tail _ (List.Mem.tail _ (List.Mem.tail _ (List.Mem.tail _ (List.Mem.tail _ (List.Mem.tail _ (List.Mem.tail _ (List.Mem.tail _ (List.Mem.tail _ (List.Mem.tail _ (List.Mem.tail _ (List.Mem.tail _ (List.Mem.head _))))))))))))))))))))) ⟨fun _ => HI.out, fun _ => rfl⟩)
      go_wp2_with fail
      (with_reducible refine (Q.out).mono ?_)
      clear k0 k1 k2 k3 k4 k5 k6 k7 k8 Q
      rintro e w3 ⟨rfl, hb⟩
      replace H := H.below hb
      clear hb
      go_wp2
      go_ret2
      exact ⟨rfl, H.old⟩

set_option maxHeartbeats 4000000 in
theorem rstep_pnone (c : Ca) (aR : Option Addr) (cR : Nat) (aD : Option Addr) (cD : Nat) (n : Int) (e : Int) (w : World) (hS : c.Small) (hM : ∀ j, j < c.nr → (c.R j).May) (hC : CalAt w c aR cR aD cD) (hn : dy n) (hno : ∀ l : Nat, l ≤ 60 → ¬ c.Is (n + l)) (he : (dy (n + 60) ∧ e = 8) ∨ (¬ dy (n + 60) ∧ e = 3)) : Calls Tryd.prog 33 #[.agg #[.bool (c.o 0), .bool (c.o 1), .bool (c.o 2), .bool (c.o 3), .bool (c.o 4), .bool (c.o 5), .bool (c.o 6), .slice aR c.nr cR, .slice aD c.nd cD], .int .i64 n, .int .i64 (1)] w fun e' w' => e' = .returned (.tuple #[.int .i64 0, .int .i64 e]) ∧ Below w.heap.size w w' := by
  have H := (Held.start w).add (f := calF c aR cR aD cD) hC
  have HN := Lib.hid hno
  have HE := Lib.hid he
  clear hno he
  have C1 := Lib.hid (fun v => rday13_is n true v (decide_eq_true hn))
  have HS := Lib.hid hS
  have HM := Lib.hid hM
  obtain ⟨n1, n2⟩ := hn
  clear hS hM hC
  go_enter Tryd.func33, Tryd.ntmps33
  replace H := H.box_9 (w.heap.size) (.bool (c.o 0)) (.bool (c.o 1)) (.bool (c.o 2)) (.bool (c.o 3)) (.bool (c.o 4)) (.bool (c.o 5)) (.bool (c.o 6)) (.slice aR c.nr cR) (.slice aD c.nd cD) 26 rfl
  go_wp2_with fail
  (with_reducible refine (C1.out _).mono ?_)
  rintro e w1 ⟨rfl, rfl⟩
  go_wp2_with fail
  go_loopw [9, 10] (fun u i W' => ∃ (j : Nat), j ≤ 61 ∧ i = .int .i64 j ∧ u = .bool (!decide (1 ≤ (n + ((j - 1 : Nat) : Int)) ∧ (n + ((j - 1 : Nat) : Int)) ≤ 3652059)) ∧ Held w (.cell (w.heap.size) 0 (.bool (c.o 0)) :: .cell (w.heap.size) 1 (.bool (c.o 1)) :: .cell (w.heap.size) 2 (.bool (c.o 2)) :: .cell (w.heap.size) 3 (.bool (c.o 3)) :: .cell (w.heap.size) 4 (.bool (c.o 4)) :: .cell (w.heap.size) 5 (.bool (c.o 5)) :: .cell (w.heap.size) 6 (.bool (c.o 6)) :: .cell (w.heap.size) 7 (.slice aR c.nr cR) :: .cell (w.heap.size) 8 (.slice aD c.nd cD) :: .free (w.heap.size) 0 :: .free (w.heap.size) 1 :: .free (w.heap.size) 2 :: .free (w.heap.size) 3 :: .free (w.heap.size) 4 :: .free (w.heap.size) 5 :: .free (w.heap.size) 6 :: .free (w.heap.size) 7 :: .free (w.heap.size) 8 :: calF c aR cR aD cD :: []) W') (fun _ i _ => 61 - (intOf i).toNat)
  case atStart =>
    refine ⟨0, by omega, rfl, ?_, H⟩
    rw [show decide (1 ≤ (n + ((0 - 1 : Nat) : Int)) ∧ (n + ((0 - 1 : Nat) : Int)) ≤ 3652059) = true from decide_eq_true (by omega)]
    rfl
  case round =>
    clear H
    obtain ⟨j, j1, rfl, rfl, H⟩ := hrel
    have e1 : IntKind.i64.wrap ((j : Int) * 1) = j := by rw [IntWalk.i64_in _ (by omega)]; omega
    have e2 : n + j = n + j := by omega
    have k0 := H.cell (w.heap.size) 0 (.bool (c.o 0)) (List.Mem.head _)
    have k1 := H.cell (w.heap.size) 1 (.bool (c.o 1)) (List.Mem.tail _ (List.Mem.head _))
    have k2 := H.cell (w.heap.size) 2 (.bool (c.o 2)) (List.Mem.tail _ (List.Mem.tail _ (List.Mem.head _)))
    have k3 := H.cell (w.heap.size) 3 (.bool (c.o 3)) (List.Mem.tail _ (List.Mem.tail _ (List.Mem.tail _ (List.Mem.head _))))
    have k4 := H.cell (w.heap.size) 4 (.bool (c.o 4)) (List.Mem.tail _ (List.Mem.tail _ (List.Mem.tail _ (List.Mem.tail _ (List.Mem.head _)))))
    have k5 := H.cell (w.heap.size) 5 (.bool (c.o 5)) (List.Mem.tail _ (List.Mem.tail _ (List.Mem.tail _ (List.Mem.tail _ (List.Mem.tail _ (List.Mem.head _))))))
    have k6 := H.cell (w.heap.size) 6 (.bool (c.o 6)) (List.Mem.tail _ (List.Mem.tail _ (List.Mem.tail _ (List.Mem.tail _ (List.Mem.tail _ (List.Mem.tail _ (List.Mem.head _)))))))
    have k7 := H.cell (w.heap.size) 7 (.slice aR c.nr cR) (List.Mem.tail _ (List.Mem.tail _ (List.Mem.tail _ (List.Mem.tail _ (List.Mem.tail _ (List.Mem.tail _ (List.Mem.tail _ (List.Mem.head _))))))))
    have k8 := H.cell (w.heap.size) 8 (.slice aD c.nd cD) (List.Mem.tail _ (List.Mem.tail _ (List.Mem.tail _ (List.Mem.tail _ (List.Mem.tail _ (List.Mem.tail _ (List.Mem.tail _ (List.Mem.tail _ (List.Mem.head _)))))))))
    by_cases hj : j ≤ 60
    · have Q := Lib.hid (rcis_any c aR cR aD cD (n + j) false _ HS.out HM.out (H.cal ((List.Mem.tail _ (List.Mem.tail _ (List.Mem.tail _ (List.Mem.tail _ (List.Mem.tail _ (List.Mem.tail _ (List.Mem.tail _ (List.Mem.tail _ (List.Mem.tail _ (List.Mem.tail _ (List.Mem.tail _ (List.Mem.tail _ (List.Mem.tail _ (List.Mem.tail _ (List.Mem.tail _ (List.Mem.tail _ (List.Mem.tail _ (List.Mem.tail _ (List.Mem.head _))))))))))))))))))))) ⟨fun g => absurd g (by decide), fun g => absurd g (HN.out j hj)⟩)
      obtain ⟨d, hd⟩ : ∃ d, decide (1 ≤ (n + j) ∧ (n + j) ≤ 3652059) = d := ⟨_, rfl⟩
      obtain ⟨x, hx⟩ : ∃ x, (!decide (1 ≤ (n + ((j - 1 : Nat) : Int)) ∧ (n + ((j - 1 : Nat) : Int)) ≤ 3652059)) = x := ⟨_, rfl⟩
      have Q2 := Lib.hid (fun v => rday13_is (n + j) d v hd)
      have e3 : (x || !d) = !d := by
        rw [← hx, ← hd, Bool.eq_iff_iff]
        simp only [Bool.or_eq_true, Bool.not_eq_true', decide_eq_false_iff_not]
        omega
      have HD := Lib.hid hd
      rw [hx]
      clear hd hx
      go_wp2_with fail
      (with_reducible refine (Q.out).mono ?_)
      clear k0 k1 k2 k3 k4 k5 k6 k7 k8 Q
      rintro e w3 ⟨rfl, hb⟩
      replace H := H.below hb
      clear hb
      go_wp2_with fail
      (with_reducible refine (Q2.out _).mono ?_)
      rintro e w4 ⟨rfl, rfl⟩
      clear Q2
      cases x <;> cases d <;> first | (exfalso; revert e3; decide) | skip
      all_goals
        go_wp2
        go_roundw
        case rel => exact ⟨j + 1, by omega, by go_num, by rw [Nat.add_sub_cancel, HD.out]; rfl, H⟩
        case measure => simp [intOf]; omega
    · obtain rfl : j = 61 := by omega
      rcases HE.out with ⟨he, rfl⟩ | ⟨he, rfl⟩
      · rw [show decide (1 ≤ (n + ((61 - 1 : Nat) : Int)) ∧ (n + ((61 - 1 : Nat) : Int)) ≤ 3652059) = true from decide_eq_true (by unfold dy at he; omega)]
        go_wp2
        go_ret2
        exact ⟨rfl, H.old⟩
      · rw [show decide (1 ≤ (n + ((61 - 1 : Nat) : Int)) ∧ (n + ((61 - 1 : Nat) : Int)) ≤ 3652059) = false from decide_eq_false (by unfold dy at he; omega)]
        go_wp2
        go_ret2
        exact ⟨rfl, H.old⟩

theorem rstep_p (c : Ca) (aR : Option Addr) (cR : Nat) (aD : Option Addr) (cD : Nat) (n v e : Int) (w : World) (hS : c.Small) (hM : ∀ j, j < c.nr → (c.R j).May) (hC : CalAt w c aR cR aD cD) (h : StepIs c (1) n v e) : Calls Tryd.prog 33 #[.agg #[.bool (c.o 0), .bool (c.o 1), .bool (c.o 2), .bool (c.o 3), .bool (c.o 4), .bool (c.o 5), .bool (c.o 6), .slice aR c.nr cR, .slice aD c.nd cD], .int .i64 n, .int .i64 (1)] w fun e' w' => e' = .returned (.tuple #[.int .i64 v, .int .i64 e]) ∧ Below w.heap.size w w' := by
  have ex : ∀ j : Int, n + 1 * j = n + j := fun j => by omega
  unfold StepIs at h
  simp only [ex] at h
  rcases h with ⟨h1, rfl, rfl⟩ | ⟨h1, k, h2, rfl, h3, h4, rfl⟩ | ⟨h1, h2, rfl, h3⟩
  · exact rstep_pno c aR cR aD cD n w hS hM hC h1
  · exact rstep_pyes c aR cR aD cD n k w hS hM hC h1 h2 h3 h4
  · exact rstep_pnone c aR cR aD cD n e w hS hM hC h1 h2 h3

theorem rnext14 (c : Ca) (aR : Option Addr) (cR : Nat) (aD : Option Addr) (cD : Nat) (n v e : Int) (w : World) (hS : c.Small) (hM : ∀ j, j < c.nr → (c.R j).May) (hC : CalAt w c aR cR aD cD) (h : StepIs c (1) n v e) : Calls Tryd.prog 15 #[.agg #[.bool (c.o 0), .bool (c.o 1), .bool (c.o 2), .bool (c.o 3), .bool (c.o 4), .bool (c.o 5), .bool (c.o 6), .slice aR c.nr cR, .slice aD c.nd cD], .int .i64 n] w fun e' w' => e' = .returned (.tuple #[.int .i64 v, .int .i64 e]) ∧ Below w.heap.size w w' := by
  have H := (Held.start w).add (f := calF c aR cR aD cD) hC
  have HS := Lib.hid hS
  have HM := Lib.hid hM
  have C := Lib.hid h
  clear hS hM hC h
  go_enter Tryd.func15, Tryd.ntmps15
  replace H := H.box_9 (w.heap.size) (.bool (c.o 0)) (.bool (c.o 1)) (.bool (c.o 2)) (.bool (c.o 3)) (.bool (c.o 4)) (.bool (c.o 5)) (.bool (c.o 6)) (.slice aR c.nr cR) (.slice aD c.nd cD) 26 rfl
  have k0 := H.cell (w.heap.size) 0 (.bool (c.o 0)) (List.Mem.head _)
  have k1 := H.cell (w.heap.size) 1 (.bool (c.o 1)) (List.Mem.tail _ (List.Mem.head _))
  have k2 := H.cell (w.heap.size) 2 (.bool (c.o 2)) (List.Mem.tail _ (List.Mem.tail _ (List.Mem.head _)))
  have k3 := H.cell (w.heap.size) 3 (.bool (c.o 3)) (List.Mem.tail _ (List.Mem.tail _ (List.Mem.tail _ (List.Mem.head _))))
  have k4 := H.cell (w.heap.size) 4 (.bool (c.o 4)) (List.Mem.tail _ (List.Mem.tail _ (List.Mem.tail _ (List.Mem.tail _ (List.Mem.head _)))))
  have k5 := H.cell (w.heap.size) 5 (.bool (c.o 5)) (List.Mem.tail _ (List.Mem.tail _ (List.Mem.tail _ (List.Mem.tail _ (List.Mem.tail _ (List.Mem.head _))))))
  have k6 := H.cell (w.heap.size) 6 (.bool (c.o 6)) (List.Mem.tail _ (List.Mem.tail _ (List.Mem.tail _ (List.Mem.tail _ (List.Mem.tail _ (List.Mem.tail _ (List.Mem.head _)))))))
  have k7 := H.cell (w.heap.size) 7 (.slice aR c.nr cR) (List.Mem.tail _ (List.Mem.tail _ (List.Mem.tail _ (List.Mem.tail _ (List.Mem.tail _ (List.Mem.tail _ (List.Mem.tail _ (List.Mem.head _))))))))
  have k8 := H.cell (w.heap.size) 8 (.slice aD c.nd cD) (List.Mem.tail _ (List.Mem.tail _ (List.Mem.tail _ (List.Mem.tail _ (List.Mem.tail _ (List.Mem.tail _ (List.Mem.tail _ (List.Mem.tail _ (List.Mem.head _)))))))))
  go_wp2_with fail
  (with_reducible refine (rstep_p c aR cR aD cD n v e _ HS.out HM.out (H.cal ((List.Mem.tail _ (List.Mem.tail _ (List.Mem.tail _ (List.Mem.tail _ (List.Mem.tail _ (List.Mem.tail _ (List.Mem.tail _ (List.Mem.tail _ (List.Mem.tail _ (List.Mem.tail _ (List.Mem.tail _ (List.Mem.tail _ (List.Mem.tail _ (List.Mem.tail _ (List.Mem.tail _ (List.Mem.tail _ (List.Mem.tail _ (List.Mem.tail _ (List.Mem.head _))))))))))))))))))))) C.out).mono ?_)
  rintro e w1 ⟨rfl, hb⟩
  replace H := H.below hb
  clear hb
  go_wp2
  go_ret2
  exact ⟨rfl, H.old⟩

set_option maxHeartbeats 4000000 in
theorem rstep_mno (c : Ca) (aR : Option Addr) (cR : Nat) (aD : Option Addr) (cD : Nat) (n : Int)  (w : World) (hS : c.Small) (hM : ∀ j, j < c.nr → (c.R j).May) (hC : CalAt w c aR cR aD cD) (hn : ¬ dy n) : Calls Tryd.prog 33 #[.agg #[.bool (c.o 0), .bool (c.o 1), .bool (c.o 2), .bool (c.o 3), .bool (c.o 4), .bool (c.o 5), .bool (c.o 6), .slice aR c.nr cR, .slice aD c.nd cD], .int .i64 n, .int .i64 (-1)] w fun e' w' => e' = .returned (.tuple #[.int .i64 0, .int .i64 3]) ∧ Below w.heap.size w w' := by
  have H := (Held.start w).add (f := calF c aR cR aD cD) hC
  have C1 := Lib.hid (fun v => rday13_is n false v (decide_eq_false hn))
  clear hn hS hM hC
  go_enter Tryd.func33, Tryd.ntmps33
  replace H := H.box_9 (w.heap.size) (.bool (c.o 0)) (.bool (c.o 1)) (.bool (c.o 2)) (.bool (c.o 3)) (.bool (c.o 4)) (.bool (c.o 5)) (.bool (c.o 6)) (.slice aR c.nr cR) (.slice aD c.nd cD) 26 rfl
  go_wp2_with fail
  (with_reducible refine (C1.out _).mono ?_)
  rintro e w1 ⟨rfl, rfl⟩
  go_wp2
  go_ret2
  exact ⟨rfl, H.old⟩

set_option maxHeartbeats 4000000 in
theorem rstep_myes (c : Ca) (aR : Option Addr) (cR : Nat) (aD : Option Addr) (cD : Nat) (n : Int) (k : Nat) (w : World) (hS : c.Small) (hM : ∀ j, j < c.nr → (c.R j).May) (hC : CalAt w c aR cR aD cD) (hn : dy n) (hk : k ≤ 60) (hi : c.Is (n - k)) (hno : ∀ l : Nat, l < k → ¬ c.Is (n - l)) : Calls Tryd.prog 33 #[.agg #[.bool (c.o 0), .bool (c.o 1), .bool (c.o 2), .bool (c.o 3), .bool (c.o 4), .bool (c.o 5), .bool (c.o 6), .slice aR c.nr cR, .slice aD c.nd cD], .int .i64 n, .int .i64 (-1)] w fun e' w' => e' = .returned (.tuple #[.int .i64 (n - k), .int .i64 0]) ∧ Below w.heap.size w w' := by
  have H := (Held.start w).add (f := calF c aR cR aD cD) hC
  have HI := Lib.hid hi
  have HN := Lib.hid hno
  clear hi hno
  have C1 := Lib.hid (fun v => rday13_is n true v (decide_eq_true hn))
  have HS := Lib.hid hS
  have HM := Lib.hid hM
  obtain ⟨n1, n2⟩ := hn
  clear hS hM hC
  go_enter Tryd.func33, Tryd.ntmps33
  replace H := H.box_9 (w.heap.size) (.bool (c.o 0)) (.bool (c.o 1)) (.bool (c.o 2)) (.bool (c.o 3)) (.bool (c.o 4)) (.bool (c.o 5)) (.bool (c.o 6)) (.slice aR c.nr cR) (.slice aD c.nd cD) 26 rfl
  go_wp2_with fail
  (with_reducible refine (C1.out _).mono ?_)
  rintro e w1 ⟨rfl, rfl⟩
  go_wp2_with fail
  go_loopw [9, 10] (fun u i W' => ∃ (j : Nat) (x : Bool), j ≤ k ∧ i = .int .i64 j ∧ u = .bool x ∧ Held w (.cell (w.heap.size) 0 (.bool (c.o 0)) :: .cell (w.heap.size) 1 (.bool (c.o 1)) :: .cell (w.heap.size) 2 (.bool (c.o 2)) :: .cell (w.heap.size) 3 (.bool (c.o 3)) :: .cell (w.heap.size) 4 (.bool (c.o 4)) :: .cell (w.heap.size) 5 (.bool (c.o 5)) :: .cell (w.heap.size) 6 (.bool (c.o 6)) :: .cell (w.heap.size) 7 (.slice aR c.nr cR) :: .cell (w.heap.size) 8 (.slice aD c.nd cD) :: .free (w.heap.size) 0 :: .free (w.heap.size) 1 :: .free (w.heap.size) 2 :: .free (w.heap.size) 3 :: .free (w.heap.size) 4 :: .free (w.heap.size) 5 :: .free (w.heap.size) 6 :: .free (w.heap.size) 7 :: .free (w.heap.size) 8 :: calF c aR cR aD cD :: []) W') (fun _ i _ => 61 - (intOf i).toNat)
  case atStart => exact ⟨0, false, by omega, rfl, rfl, H⟩
  case round =>
    clear H
    obtain ⟨j, x, j1, rfl, rfl, H⟩ := hrel
    have e1 : IntKind.i64.wrap ((j : Int) * -1) = -j := by rw [IntWalk.i64_in _ (by omega)]; omega
    have e2 : n + -(j : Int) = n - j := by omega
    have k0 := H.cell (w.heap.size) 0 (.bool (c.o 0)) (List.Mem.head _)
    have k1 := H.cell (w.heap.size) 1 (.bool (c.o 1)) (List.Mem.tail _ (List.Mem.head _))
    have k2 := H.cell (w.heap.size) 2 (.bool (c.o 2)) (List.Mem.tail _ (List.Mem.tail _ (List.Mem.head _)))
    have k3 := H.cell (w.heap.size) 3 (.bool (c.o 3)) (List.Mem.tail _ (List.Mem.tail _ (List.Mem.tail _ (List.Mem.head _))))
    have k4 := H.cell (w.heap.size) 4 (.bool (c.o 4)) (List.Mem.tail _ (List.Mem.tail _ (List.Mem.tail _ (List.Mem.tail _ (List.Mem.head _)))))
    have k5 := H.cell (w.heap.size) 5 (.bool (c.o 5)) (List.Mem.tail _ (List.Mem.tail _ (List.Mem.tail _ (List.Mem.tail _ (List.Mem.tail _ (List.Mem.head _))))))
    have k6 := H.cell (w.heap.size) 6 (.bool (c.o 6)) (List.Mem.tail _ (List.Mem.tail _ (List.Mem.tail _ (List.Mem.tail _ (List.Mem.tail _ (List.Mem.tail _ (List.Mem.head _)))))))
    have k7 := H.cell (w.heap.size) 7 (.slice aR c.nr cR) (List.Mem.tail _ (List.Mem.tail _ (List.Mem.tail _ (List.Mem.tail _ (List.Mem.tail _ (List.Mem.tail _ (List.Mem.tail _ (List.Mem.head _))))))))
    have k8 := H.cell (w.heap.size) 8 (.slice aD c.nd cD) (List.Mem.tail _ (List.Mem.tail _ (List.Mem.tail _ (List.Mem.tail _ (List.Mem.tail _ (List.Mem.tail _ (List.Mem.tail _ (List.Mem.tail _ (List.Mem.head _)))))))))
    by_cases hj : j < k
    · have Q := Lib.hid (rcis_any c aR cR aD cD (n - j) false _ HS.out HM.out (H.cal ((List.Mem.tail _ (List.Mem.tail _ (List.Mem.tail _ (List.Mem.tail _ (List.Mem.tail _ (List.Mem.tail _ (List.Mem.tail _ (List.Mem.tail _ (List.Mem.tail _ (List.Mem.tail _ (List.Mem.tail _ (List.Mem.tail _ (List.Mem.tail _ (List.Mem.tail _ (List.Mem.tail _ (List.Mem.tail _ (List.Mem.tail _ (List.Mem.tail _ (List.Mem.head _))))))))))))))))))))) ⟨fun g => absurd g (by decide), fun g => absurd g (HN.out j hj)⟩)
      obtain ⟨d, hd⟩ : ∃ d, decide (1 ≤ (n - j) ∧ (n - j) ≤ 3652059) = d := ⟨_, rfl⟩
      have Q2 := Lib.hid (fun v => rday13_is (n - j) d v hd)
      clear hd
      go_wp2_with fail
      (with_reducible refine (Q.out).mono ?_)
      clear k0 k1 k2 k3 k4 k5 k6 k7 k8 Q
      rintro e w3 ⟨rfl, hb⟩
      replace H := H.below hb
      clear hb
      go_wp2_with fail
      (with_reducible refine (Q2.out _).mono ?_)
      rintro e w4 ⟨rfl, rfl⟩
      clear Q2
      cases x <;> cases d
      all_goals
        go_wp2
        go_roundw
        case rel => exact ⟨j + 1, _, by omega, by go_num, rfl, H⟩
        case measure => simp [intOf]; omega
    · obtain rfl : j = k := by omega
      have Q := Lib.hid (rcis_any c aR cR aD cD (n - j) true _ HS.out HM.out (H.cal ((List.Mem.tail _ (List.Mem.tail _ (List.Mem.tail _ (List.Mem.tail _ (List.Mem.tail _ (List.Mem.tail _ (List.Mem.tail _ (List.Mem.tail _ (List.Mem.tail _ (List.Mem.tail _ (List.Mem.tail _ (List.Mem.tail _ (List.Mem.tail _ (List.Mem.tail _ (List.Mem.tail _ (List.Mem.tail _ (List.Mem.tail _ (List.Mem.tail _ (List.Mem.head _))))))))))))))))))))) ⟨fun _ => HI.out, fun _ => rfl⟩)
      go_wp2_with fail
      (with_reducible refine (Q.out).mono ?_)
      clear k0 k1 k2 k3 k4 k5 k6 k7 k8 Q
      rintro e w3 ⟨rfl, hb⟩
      replace H := H.below hb
      clear hb
      go_wp2
      go_ret2
      exact ⟨rfl, H.old⟩

set_option maxHeartbeats 4000000 in
theorem rstep_mnone (c : Ca) (aR : Option Addr) (cR : Nat) (aD : Option Addr) (cD : Nat) (n : Int) (e : Int) (w : World) (hS : c.Small) (hM : ∀ j, j < c.nr → (c.R j).May) (hC : CalAt w c aR cR aD cD) (hn : dy n) (hno : ∀ l : Nat, l ≤ 60 → ¬ c.Is (n - l)) (he : (dy (n - 60) ∧ e = 8) ∨ (¬ dy (n - 60) ∧ e = 3)) : Calls Tryd.prog 33 #[.agg #[.bool (c.o 0), .bool (c.o 1), .bool (c.o 2), .bool (c.o 3), .bool (c.o 4), .bool (c.o 5), .bool (c.o 6), .slice aR c.nr cR, .slice aD c.nd cD], .int .i64 n, .int .i64 (-1)] w fun e' w' => e' = .returned (.tuple #[.int .i64 0, .int .i64 e]) ∧ Below w.heap.size w w' := by
  have H := (Held.start w).add (f := calF c aR cR aD cD) hC
  have HN := Lib.hid hno
  have HE := Lib.hid he
  clear hno he
  have C1 := Lib.hid (fun v => rday13_is n true v (decide_eq_true hn))
  have HS := Lib.hid hS
  have HM := Lib.hid hM
  obtain ⟨n1, n2⟩ := hn
  clear hS hM hC
  go_enter Tryd.func33, Tryd.ntmps33
  replace H := H.box_9 (w.heap.size) (.bool (c.o 0)) (.bool (c.o 1)) (.bool (c.o 2)) (.bool (c.o 3)) (.bool (c.o 4)) (.bool (c.o 5)) (.bool (c.o 6)) (.slice aR c.nr cR) (.slice aD c.nd cD) 26 rfl
  go_wp2_with fail
  (with_reducible refine (C1.out _).mono ?_)
  rintro e w1 ⟨rfl, rfl⟩
  go_wp2_with fail
  go_loopw [9, 10] (fun u i W' => ∃ (j : Nat), j ≤ 61 ∧ i = .int .i64 j ∧ u = .bool (!decide (1 ≤ (n - ((j - 1 : Nat) : Int)) ∧ (n - ((j - 1 : Nat) : Int)) ≤ 3652059)) ∧ Held w (.cell (w.heap.size) 0 (.bool (c.o 0)) :: .cell (w.heap.size) 1 (.bool (c.o 1)) :: .cell (w.heap.size) 2 (.bool (c.o 2)) :: .cell (w.heap.size) 3 (.bool (c.o 3)) :: .cell (w.heap.size) 4 (.bool (c.o 4)) :: .cell (w.heap.size) 5 (.bool (c.o 5)) :: .cell (w.heap.size) 6 (.bool (c.o 6)) :: .cell (w.heap.size) 7 (.slice aR c.nr cR) :: .cell (w.heap.size) 8 (.slice aD c.nd cD) :: .free (w.heap.size) 0 :: .free (w.heap.size) 1 :: .free (w.heap.size) 2 :: .free (w.heap.size) 3 :: .free (w.heap.size) 4 :: .free (w.heap.size) 5 :: .free (w.heap.size) 6 :: .free (w.heap.size) 7 :: .free (w.heap.size) 8 :: calF c aR cR aD cD :: []) W') (fun _ i _ => 61 - (intOf i).toNat)
  case atStart =>
    refine ⟨0, by omega, rfl, ?_, H⟩
    rw [show decide (1 ≤ (n - ((0 - 1 : Nat) : Int)) ∧ (n - ((0 - 1 : Nat) : Int)) ≤ 3652059) = true from decide_eq_true (by omega)]
    rfl
  case round =>
    clear H
    obtain ⟨j, j1, rfl, rfl, H⟩ := hrel
    have e1 : IntKind.i64.wrap ((j : Int) * -1) = -j := by rw [IntWalk.i64_in _ (by omega)]; omega
    have e2 : n + -(j : Int) = n - j := by omega
    have k0 := H.cell (w.heap.size) 0 (.bool (c.o 0)) (List.Mem.head _)
    have k1 := H.cell (w.heap.size) 1 (.bool (c.o 1)) (List.Mem.tail _ (List.Mem.head _))
    have k2 := H.cell (w.heap.size) 2 (.bool (c.o 2)) (List.Mem.tail _ (List.Mem.tail _ (List.Mem.head _)))
    have k3 := H.cell (w.heap.size) 3 (.bool (c.o 3)) (List.Mem.tail _ (List.Mem.tail _ (List.Mem.tail _ (List.Mem.head _))))
    have k4 := H.cell (w.heap.size) 4 (.bool (c.o 4)) (List.Mem.tail _ (List.Mem.tail _ (List.Mem.tail _ (List.Mem.tail _ (List.Mem.head _)))))
    have k5 := H.cell (w.heap.size) 5 (.bool (c.o 5)) (List.Mem.tail _ (List.Mem.tail _ (List.Mem.tail _ (List.Mem.tail _ (List.Mem.tail _ (List.Mem.head _))))))
    have k6 := H.cell (w.heap.size) 6 (.bool (c.o 6)) (List.Mem.tail _ (List.Mem.tail _ (List.Mem.tail _ (List.Mem.tail _ (List.Mem.tail _ (List.Mem.tail _ (List.Mem.head _)))))))
    have k7 := H.cell (w.heap.size) 7 (.slice aR c.nr cR) (List.Mem.tail _ (List.Mem.tail _ (List.Mem.tail _ (List.Mem.tail _ (List.Mem.tail _ (List.Mem.tail _ (List.Mem.tail _ (List.Mem.head _))))))))
    have k8 := H.cell (w.heap.size) 8 (.slice aD c.nd cD) (List.Mem.tail _ (List.Mem.tail _ (List.Mem.tail _ (List.Mem.tail _ (List.Mem.tail _ (List.Mem.tail _ (List.Mem.tail _ (List.Mem.tail _ (List.Mem.head _)))))))))
    by_cases hj : j ≤ 60
    · have Q := Lib.hid (rcis_any c aR cR aD cD (n - j) false _ HS.out HM.out (H.cal ((List.Mem.tail _ (List.Mem.tail _ (List.Mem.tail _ (List.Mem.tail _ (List.Mem.tail _ (List.Mem.tail _ (List.Mem.tail _ (List.Mem.tail _ (List.Mem.tail _ (List.Mem.tail _ (List.Mem.tail _ (List.Mem.tail _ (List.Mem.tail _ (List.Mem.tail _ (List.Mem.tail _ (List.Mem.tail _ (List.Mem.tail _ (List.Mem.tail _ (List.Mem.head _))))))))))))))))))))) ⟨fun g => absurd g (by decide), fun g => absurd g (HN.out j hj)⟩)
      obtain ⟨d, hd⟩ : ∃ d, decide (1 ≤ (n - j) ∧ (n - j) ≤ 3652059) = d := ⟨_, rfl⟩
      obtain ⟨x, hx⟩ : ∃ x, (!decide (1 ≤ (n - ((j - 1 : Nat) : Int)) ∧ (n - ((j - 1 : Nat) : Int)) ≤ 3652059)) = x := ⟨_, rfl⟩
      have Q2 := Lib.hid (fun v => rday13_is (n - j) d v hd)
      have e3 : (x || !d) = !d := by
        rw [← hx, ← hd, Bool.eq_iff_iff]
        simp only [Bool.or_eq_true, Bool.not_eq_true', decide_eq_false_iff_not]
        omega
      have HD := Lib.hid hd
      rw [hx]
      clear hd hx
      go_wp2_with fail
      (with_reducible refine (Q.out).mono ?_)
      clear k0 k1 k2 k3 k4 k5 k6 k7 k8 Q
      rintro e w3 ⟨rfl, hb⟩
      replace H := H.below hb
      clear hb
      go_wp2_with fail
      (with_reducible refine (Q2.out _).mono ?_)
      rintro e w4 ⟨rfl, rfl⟩
      clear Q2
      cases x <;> cases d <;> first | (exfalso; revert e3; decide) | skip
      all_goals
        go_wp2
        go_roundw
        case rel => exact ⟨j + 1, by omega, by go_num, by rw [Nat.add_sub_cancel, HD.out]; rfl, H⟩
        case measure => simp [intOf]; omega
    · obtain rfl : j = 61 := by omega
      rcases HE.out with ⟨he, rfl⟩ | ⟨he, rfl⟩
      · rw [show decide (1 ≤ (n - ((61 - 1 : Nat) : Int)) ∧ (n - ((61 - 1 : Nat) : Int)) ≤ 3652059) = true from decide_eq_true (by unfold dy at he; omega)]
        go_wp2
        go_ret2
        exact ⟨rfl, H.old⟩
      · rw [show decide (1 ≤ (n - ((61 - 1 : Nat) : Int)) ∧ (n - ((61 - 1 : Nat) : Int)) ≤ 3652059) = false from decide_eq_false (by unfold dy at he; omega)]
        go_wp2
        go_ret2
        exact ⟨rfl, H.old⟩

theorem rstep_m (c : Ca) (aR : Option Addr) (cR : Nat) (aD : Option Addr) (cD : Nat) (n v e : Int) (w : World) (hS : c.Small) (hM : ∀ j, j < c.nr → (c.R j).May) (hC : CalAt w c aR cR aD cD) (h : StepIs c (-1) n v e) : Calls Tryd.prog 33 #[.agg #[.bool (c.o 0), .bool (c.o 1), .bool (c.o 2), .bool (c.o 3), .bool (c.o 4), .bool (c.o 5), .bool (c.o 6), .slice aR c.nr cR, .slice aD c.nd cD], .int .i64 n, .int .i64 (-1)] w fun e' w' => e' = .returned (.tuple #[.int .i64 v, .int .i64 e]) ∧ Below w.heap.size w w' := by
  have ex : ∀ j : Int, n + -1 * j = n - j := fun j => by omega
  unfold StepIs at h
  simp only [ex] at h
  rcases h with ⟨h1, rfl, rfl⟩ | ⟨h1, k, h2, rfl, h3, h4, rfl⟩ | ⟨h1, h2, rfl, h3⟩
  · exact rstep_mno c aR cR aD cD n w hS hM hC h1
  · exact rstep_myes c aR cR aD cD n k w hS hM hC h1 h2 h3 h4
  · exact rstep_mnone c aR cR aD cD n e w hS hM hC h1 h2 h3

theorem rprev14 (c : Ca) (aR : Option Addr) (cR : Nat) (aD : Option Addr) (cD : Nat) (n v e : Int) (w : World) (hS : c.Small) (hM : ∀ j, j < c.nr → (c.R j).May) (hC : CalAt w c aR cR aD cD) (h : StepIs c (-1) n v e) : Calls Tryd.prog 17 #[.agg #[.bool (c.o 0), .bool (c.o 1), .bool (c.o 2), .bool (c.o 3), .bool (c.o 4), .bool (c.o 5), .bool (c.o 6), .slice aR c.nr cR, .slice aD c.nd cD], .int .i64 n] w fun e' w' => e' = .returned (.tuple #[.int .i64 v, .int .i64 e]) ∧ Below w.heap.size w w' := by
  have H := (Held.start w).add (f := calF c aR cR aD cD) hC
  have HS := Lib.hid hS
  have HM := Lib.hid hM
  have C := Lib.hid h
  clear hS hM hC h
  go_enter Tryd.func17, Tryd.ntmps17
  replace H := H.box_9 (w.heap.size) (.bool (c.o 0)) (.bool (c.o 1)) (.bool (c.o 2)) (.bool (c.o 3)) (.bool (c.o 4)) (.bool (c.o 5)) (.bool (c.o 6)) (.slice aR c.nr cR) (.slice aD c.nd cD) 26 rfl
  have k0 := H.cell (w.heap.size) 0 (.bool (c.o 0)) (List.Mem.head _)
  have k1 := H.cell (w.heap.size) 1 (.bool (c.o 1)) (List.Mem.tail _ (List.Mem.head _))
  have k2 := H.cell (w.heap.size) 2 (.bool (c.o 2)) (List.Mem.tail _ (List.Mem.tail _ (List.Mem.head _)))
  have k3 := H.cell (w.heap.size) 3 (.bool (c.o 3)) (List.Mem.tail _ (List.Mem.tail _ (List.Mem.tail _ (List.Mem.head _))))
  have k4 := H.cell (w.heap.size) 4 (.bool (c.o 4)) (List.Mem.tail _ (List.Mem.tail _ (List.Mem.tail _ (List.Mem.tail _ (List.Mem.head _)))))
  have k5 := H.cell (w.heap.size) 5 (.bool (c.o 5)) (List.Mem.tail _ (List.Mem.tail _ (List.Mem.tail _ (List.Mem.tail _ (List.Mem.tail _ (List.Mem.head _))))))
  have k6 := H.cell (w.heap.size) 6 (.bool (c.o 6)) (List.Mem.tail _ (List.Mem.tail _ (List.Mem.tail _ (List.Mem.tail _ (List.Mem.tail _ (List.Mem.tail _ (List.Mem.head _)))))))
  have k7 := H.cell (w.heap.size) 7 (.slice aR c.nr cR) (List.Mem.tail _ (List.Mem.tail _ (List.Mem.tail _ (List.Mem.tail _ (List.Mem.tail _ (List.Mem.tail _ (List.Mem.tail _ (List.Mem.head _))))))))
  have k8 := H.cell (w.heap.size) 8 (.slice aD c.nd cD) (List.Mem.tail _ (List.Mem.tail _ (List.Mem.tail _ (List.Mem.tail _ (List.Mem.tail _ (List.Mem.tail _ (List.Mem.tail _ (List.Mem.tail _ (List.Mem.head _)))))))))
  go_wp2_with fail
  (with_reducible refine (rstep_m c aR cR aD cD n v e _ HS.out HM.out (H.cal ((List.Mem.tail _ (List.Mem.tail _ (List.Mem.tail _ (List.Mem.tail _ (List.Mem.tail _ (List.Mem.tail _ (List.Mem.tail _ (List.Mem.tail _ (List.Mem.tail _ (List.Mem.tail _ (List.Mem.tail _ (List.Mem.tail _ (List.Mem.tail _ (List.Mem.tail _ (List.Mem.tail _ (List.Mem.tail _ (List.Mem.tail _ (List.Mem.tail _ (List.Mem.head _))))))))))))))))))))) C.out).mono ?_)
  rintro e w1 ⟨rfl, hb⟩
  replace H := H.below hb
  clear hb
  go_wp2
  go_ret2
  exact ⟨rfl, H.old⟩

set_option maxHeartbeats 1000000 in
theorem rmonth14 (n a : Int) (b : Bool) (w : World) (hn : dy n) (ha : dy a) (h : b = true ↔ sameM n a) : Calls Tryd.prog 30 #[.int .i64 n, .int .i64 a] w fun e w' => e = .returned (.bool b) ∧ Below w.heap.size w w' := by
  obtain ⟨y, m, d, h1, h2⟩ := day_of n hn.1 hn.2
  obtain ⟨y', m', d', h3, h4⟩ := day_of a ha.1 ha.2
  have HB : Hid (b = (y' == y && m' == m)) := Lib.hid (by
    rw [Bool.eq_iff_iff, h, same_iff h1 h2 h3 h4]
    simp)
  have C1 := Lib.hid (fun v => rof_any n y m d 0 v (Or.inl ⟨h1, h2, rfl⟩))
  have C2 := Lib.hid (fun v => rof_any a y' m' d' 0 v (Or.inl ⟨h3, h4, rfl⟩))
  have H := Held.start w
  clear h1 h2 h3 h4 h hn ha
  go_enter Tryd.func30, Tryd.ntmps30
  go_wp2_with fail
  (with_reducible refine (C1.out _).mono ?_)
  rintro e w1 ⟨rfl, hb⟩
  replace H := H.below hb
  clear hb
  go_wp2_with fail
  replace H := H.triple (w1.heap.size) (.int .i64 y) (.int .i64 m) (.int .i64 d) 46 rfl
  (with_reducible refine (C2.out _).mono ?_)
  rintro e w2 ⟨rfl, hb⟩
  replace H := H.below hb
  clear hb
  have c0 := H.cell (w1.heap.size) 0 (.int .i64 y) ((List.Mem.head _))
  have c1 := H.cell (w1.heap.size) 1 (.int .i64 m) ((List.Mem.tail _ (List.Mem.head _)))
  have l0 := H.lt (w1.heap.size) 0 (.int .i64 y) ((List.Mem.head _))
  have HO := (H.alloc (.cells #[.int .i64 y', .int .i64 m', .int .i64 d'] 46)).old
  clear H
  have e1 : (y == y') = (y' == y) := by rw [Bool.eq_iff_iff]; simp; omega
  have e2 : (m == m') = (m' == m) := by rw [Bool.eq_iff_iff]; simp; omega
  cases hy : (y' == y) <;> cases hm : (m' == m)
  all_goals
    rw [hy] at e1
    rw [hm] at e2
    have hb := HB.out
    rw [hy, hm] at hb
    simp only [Bool.and_true, Bool.and_false, Bool.true_and, Bool.false_and, Bool.and_self] at hb
    subst hb
    go_wp2
    go_ret
    exact ⟨rfl, HO⟩

set_option maxHeartbeats 4000000 in
theorem rto0d (c : Ca) (aR : Option Addr) (cR : Nat) (aD : Option Addr) (cD : Nat) (n : Int)  (w : World) (hS : c.Small) (hM : ∀ j, j < c.nr → (c.R j).May) (hC : CalAt w c aR cR aD cD) (hn : dy n) : Calls Tryd.prog 13 #[.agg #[.bool (c.o 0), .bool (c.o 1), .bool (c.o 2), .bool (c.o 3), .bool (c.o 4), .bool (c.o 5), .bool (c.o 6), .slice aR c.nr cR, .slice aD c.nd cD], .int .i64 n, .int .i64 0] w fun e' w' => e' = .returned (.tuple #[.int .i64 n, .int .i64 0]) ∧ Below w.heap.size w w' := by
  have H := (Held.start w).add (f := calF c aR cR aD cD) hC
  have HS := Lib.hid hS
  have HM := Lib.hid hM
  clear hS hM hC
  have C1 := Lib.hid (fun v => rday13_is n true v (decide_eq_true hn))
  clear hn
  go_enter Tryd.func13, Tryd.ntmps13
  replace H := H.box_9 (w.heap.size) (.bool (c.o 0)) (.bool (c.o 1)) (.bool (c.o 2)) (.bool (c.o 3)) (.bool (c.o 4)) (.bool (c.o 5)) (.bool (c.o 6)) (.slice aR c.nr cR) (.slice aD c.nd cD) 26 rfl
  have k0 := H.cell (w.heap.size) 0 (.bool (c.o 0)) (List.Mem.head _)
  have k1 := H.cell (w.heap.size) 1 (.bool (c.o 1)) (List.Mem.tail _ (List.Mem.head _))
  have k2 := H.cell (w.heap.size) 2 (.bool (c.o 2)) (List.Mem.tail _ (List.Mem.tail _ (List.Mem.head _)))
  have k3 := H.cell (w.heap.size) 3 (.bool (c.o 3)) (List.Mem.tail _ (List.Mem.tail _ (List.Mem.tail _ (List.Mem.head _))))
  have k4 := H.cell (w.heap.size) 4 (.bool (c.o 4)) (List.Mem.tail _ (List.Mem.tail _ (List.Mem.tail _ (List.Mem.tail _ (List.Mem.head _)))))
  have k5 := H.cell (w.heap.size) 5 (.bool (c.o 5)) (List.Mem.tail _ (List.Mem.tail _ (List.Mem.tail _ (List.Mem.tail _ (List.Mem.tail _ (List.Mem.head _))))))
  have k6 := H.cell (w.heap.size) 6 (.bool (c.o 6)) (List.Mem.tail _ (List.Mem.tail _ (List.Mem.tail _ (List.Mem.tail _ (List.Mem.tail _ (List.Mem.tail _ (List.Mem.head _)))))))
  have k7 := H.cell (w.heap.size) 7 (.slice aR c.nr cR) (List.Mem.tail _ (List.Mem.tail _ (List.Mem.tail _ (List.Mem.tail _ (List.Mem.tail _ (List.Mem.tail _ (List.Mem.tail _ (List.Mem.head _))))))))
  have k8 := H.cell (w.heap.size) 8 (.slice aD c.nd cD) (List.Mem.tail _ (List.Mem.tail _ (List.Mem.tail _ (List.Mem.tail _ (List.Mem.tail _ (List.Mem.tail _ (List.Mem.tail _ (List.Mem.tail _ (List.Mem.head _)))))))))
  go_wp2_with fail
  (with_reducible refine (C1.out _).mono ?_)
  rintro e w1 ⟨rfl, rfl⟩
  go_wp2
  go_ret2
  exact ⟨rfl, H.old⟩

set_option maxHeartbeats 4000000 in
theorem rto0n (c : Ca) (aR : Option Addr) (cR : Nat) (aD : Option Addr) (cD : Nat) (n : Int)  (w : World) (hS : c.Small) (hM : ∀ j, j < c.nr → (c.R j).May) (hC : CalAt w c aR cR aD cD) (hn : ¬ dy n) : Calls Tryd.prog 13 #[.agg #[.bool (c.o 0), .bool (c.o 1), .bool (c.o 2), .bool (c.o 3), .bool (c.o 4), .bool (c.o 5), .bool (c.o 6), .slice aR c.nr cR, .slice aD c.nd cD], .int .i64 n, .int .i64 0] w fun e' w' => e' = .returned (.tuple #[.int .i64 0, .int .i64 3]) ∧ Below w.heap.size w w' := by
  have H := (Held.start w).add (f := calF c aR cR aD cD) hC
  have HS := Lib.hid hS
  have HM := Lib.hid hM
  clear hS hM hC
  have C1 := Lib.hid (fun v => rday13_is n false v (decide_eq_false hn))
  clear hn
  go_enter Tryd.func13, Tryd.ntmps13
  replace H := H.box_9 (w.heap.size) (.bool (c.o 0)) (.bool (c.o 1)) (.bool (c.o 2)) (.bool (c.o 3)) (.bool (c.o 4)) (.bool (c.o 5)) (.bool (c.o 6)) (.slice aR c.nr cR) (.slice aD c.nd cD) 26 rfl
  have k0 := H.cell (w.heap.size) 0 (.bool (c.o 0)) (List.Mem.head _)
  have k1 := H.cell (w.heap.size) 1 (.bool (c.o 1)) (List.Mem.tail _ (List.Mem.head _))
  have k2 := H.cell (w.heap.size) 2 (.bool (c.o 2)) (List.Mem.tail _ (List.Mem.tail _ (List.Mem.head _)))
  have k3 := H.cell (w.heap.size) 3 (.bool (c.o 3)) (List.Mem.tail _ (List.Mem.tail _ (List.Mem.tail _ (List.Mem.head _))))
  have k4 := H.cell (w.heap.size) 4 (.bool (c.o 4)) (List.Mem.tail _ (List.Mem.tail _ (List.Mem.tail _ (List.Mem.tail _ (List.Mem.head _)))))
  have k5 := H.cell (w.heap.size) 5 (.bool (c.o 5)) (List.Mem.tail _ (List.Mem.tail _ (List.Mem.tail _ (List.Mem.tail _ (List.Mem.tail _ (List.Mem.head _))))))
  have k6 := H.cell (w.heap.size) 6 (.bool (c.o 6)) (List.Mem.tail _ (List.Mem.tail _ (List.Mem.tail _ (List.Mem.tail _ (List.Mem.tail _ (List.Mem.tail _ (List.Mem.head _)))))))
  have k7 := H.cell (w.heap.size) 7 (.slice aR c.nr cR) (List.Mem.tail _ (List.Mem.tail _ (List.Mem.tail _ (List.Mem.tail _ (List.Mem.tail _ (List.Mem.tail _ (List.Mem.tail _ (List.Mem.head _))))))))
  have k8 := H.cell (w.heap.size) 8 (.slice aD c.nd cD) (List.Mem.tail _ (List.Mem.tail _ (List.Mem.tail _ (List.Mem.tail _ (List.Mem.tail _ (List.Mem.tail _ (List.Mem.tail _ (List.Mem.tail _ (List.Mem.head _)))))))))
  go_wp2_with fail
  (with_reducible refine (C1.out _).mono ?_)
  rintro e w1 ⟨rfl, rfl⟩
  go_wp2
  go_ret2
  exact ⟨rfl, H.old⟩

set_option maxHeartbeats 4000000 in
theorem rto1bad (c : Ca) (aR : Option Addr) (cR : Nat) (aD : Option Addr) (cD : Nat) (n v e : Int)  (w : World) (hS : c.Small) (hM : ∀ j, j < c.nr → (c.R j).May) (hC : CalAt w c aR cR aD cD) (h : StepIs c (1) n v e) (he : e ≠ 0) : Calls Tryd.prog 13 #[.agg #[.bool (c.o 0), .bool (c.o 1), .bool (c.o 2), .bool (c.o 3), .bool (c.o 4), .bool (c.o 5), .bool (c.o 6), .slice aR c.nr cR, .slice aD c.nd cD], .int .i64 n, .int .i64 1] w fun e' w' => e' = .returned (.tuple #[.int .i64 v, .int .i64 e]) ∧ Below w.heap.size w w' := by
  have H := (Held.start w).add (f := calF c aR cR aD cD) hC
  have HS := Lib.hid hS
  have HM := Lib.hid hM
  clear hS hM hC
  have C := Lib.hid h
  have z : (e == 0) = false := by simpa using he
  clear h he
  go_enter Tryd.func13, Tryd.ntmps13
  replace H := H.box_9 (w.heap.size) (.bool (c.o 0)) (.bool (c.o 1)) (.bool (c.o 2)) (.bool (c.o 3)) (.bool (c.o 4)) (.bool (c.o 5)) (.bool (c.o 6)) (.slice aR c.nr cR) (.slice aD c.nd cD) 26 rfl
  have k0 := H.cell (w.heap.size) 0 (.bool (c.o 0)) (List.Mem.head _)
  have k1 := H.cell (w.heap.size) 1 (.bool (c.o 1)) (List.Mem.tail _ (List.Mem.head _))
  have k2 := H.cell (w.heap.size) 2 (.bool (c.o 2)) (List.Mem.tail _ (List.Mem.tail _ (List.Mem.head _)))
  have k3 := H.cell (w.heap.size) 3 (.bool (c.o 3)) (List.Mem.tail _ (List.Mem.tail _ (List.Mem.tail _ (List.Mem.head _))))
  have k4 := H.cell (w.heap.size) 4 (.bool (c.o 4)) (List.Mem.tail _ (List.Mem.tail _ (List.Mem.tail _ (List.Mem.tail _ (List.Mem.head _)))))
  have k5 := H.cell (w.heap.size) 5 (.bool (c.o 5)) (List.Mem.tail _ (List.Mem.tail _ (List.Mem.tail _ (List.Mem.tail _ (List.Mem.tail _ (List.Mem.head _))))))
  have k6 := H.cell (w.heap.size) 6 (.bool (c.o 6)) (List.Mem.tail _ (List.Mem.tail _ (List.Mem.tail _ (List.Mem.tail _ (List.Mem.tail _ (List.Mem.tail _ (List.Mem.head _)))))))
  have k7 := H.cell (w.heap.size) 7 (.slice aR c.nr cR) (List.Mem.tail _ (List.Mem.tail _ (List.Mem.tail _ (List.Mem.tail _ (List.Mem.tail _ (List.Mem.tail _ (List.Mem.tail _ (List.Mem.head _))))))))
  have k8 := H.cell (w.heap.size) 8 (.slice aD c.nd cD) (List.Mem.tail _ (List.Mem.tail _ (List.Mem.tail _ (List.Mem.tail _ (List.Mem.tail _ (List.Mem.tail _ (List.Mem.tail _ (List.Mem.tail _ (List.Mem.head _)))))))))
  go_wp2_with fail
  (with_reducible refine (rnext14 c aR cR aD cD n v e _ HS.out HM.out (H.cal ((List.Mem.tail _ (List.Mem.tail _ (List.Mem.tail _ (List.Mem.tail _ (List.Mem.tail _ (List.Mem.tail _ (List.Mem.tail _ (List.Mem.tail _ (List.Mem.tail _ (List.Mem.tail _ (List.Mem.tail _ (List.Mem.tail _ (List.Mem.tail _ (List.Mem.tail _ (List.Mem.tail _ (List.Mem.tail _ (List.Mem.tail _ (List.Mem.tail _ (List.Mem.head _))))))))))))))))))))) C.out).mono ?_)
  clear k0 k1 k2 k3 k4 k5 k6 k7 k8
  rintro e w1 ⟨rfl, hb⟩
  replace H := H.below hb
  clear hb
  have k0 := H.cell (w.heap.size) 0 (.bool (c.o 0)) (List.Mem.head _)
  have k1 := H.cell (w.heap.size) 1 (.bool (c.o 1)) (List.Mem.tail _ (List.Mem.head _))
  have k2 := H.cell (w.heap.size) 2 (.bool (c.o 2)) (List.Mem.tail _ (List.Mem.tail _ (List.Mem.head _)))
  have k3 := H.cell (w.heap.size) 3 (.bool (c.o 3)) (List.Mem.tail _ (List.Mem.tail _ (List.Mem.tail _ (List.Mem.head _))))
  have k4 := H.cell (w.heap.size) 4 (.bool (c.o 4)) (List.Mem.tail _ (List.Mem.tail _ (List.Mem.tail _ (List.Mem.tail _ (List.Mem.head _)))))
  have k5 := H.cell (w.heap.size) 5 (.bool (c.o 5)) (List.Mem.tail _ (List.Mem.tail _ (List.Mem.tail _ (List.Mem.tail _ (List.Mem.tail _ (List.Mem.head _))))))
  have k6 := H.cell (w.heap.size) 6 (.bool (c.o 6)) (List.Mem.tail _ (List.Mem.tail _ (List.Mem.tail _ (List.Mem.tail _ (List.Mem.tail _ (List.Mem.tail _ (List.Mem.head _)))))))
  have k7 := H.cell (w.heap.size) 7 (.slice aR c.nr cR) (List.Mem.tail _ (List.Mem.tail _ (List.Mem.tail _ (List.Mem.tail _ (List.Mem.tail _ (List.Mem.tail _ (List.Mem.tail _ (List.Mem.head _))))))))
  have k8 := H.cell (w.heap.size) 8 (.slice aD c.nd cD) (List.Mem.tail _ (List.Mem.tail _ (List.Mem.tail _ (List.Mem.tail _ (List.Mem.tail _ (List.Mem.tail _ (List.Mem.tail _ (List.Mem.tail _ (List.Mem.head _)))))))))
  go_wp2
  go_ret2
  exact ⟨rfl, H.old⟩

set_option maxHeartbeats 4000000 in
theorem rto1t (c : Ca) (aR : Option Addr) (cR : Nat) (aD : Option Addr) (cD : Nat) (n v : Int)  (w : World) (hS : c.Small) (hM : ∀ j, j < c.nr → (c.R j).May) (hC : CalAt w c aR cR aD cD) (h : StepIs c (1) n v 0) (hs : sameM n v) : Calls Tryd.prog 13 #[.agg #[.bool (c.o 0), .bool (c.o 1), .bool (c.o 2), .bool (c.o 3), .bool (c.o 4), .bool (c.o 5), .bool (c.o 6), .slice aR c.nr cR, .slice aD c.nd cD], .int .i64 n, .int .i64 1] w fun e' w' => e' = .returned (.tuple #[.int .i64 v, .int .i64 0]) ∧ Below w.heap.size w w' := by
  have H := (Held.start w).add (f := calF c aR cR aD cD) hC
  have HS := Lib.hid hS
  have HM := Lib.hid hM
  clear hS hM hC
  have C := Lib.hid h
  have D := Lib.hid (fun u => rmonth14 n v true u (h.good rfl).1 (h.good rfl).2.1.1 ⟨fun _ => hs, fun _ => rfl⟩)
  clear h hs
  go_enter Tryd.func13, Tryd.ntmps13
  replace H := H.box_9 (w.heap.size) (.bool (c.o 0)) (.bool (c.o 1)) (.bool (c.o 2)) (.bool (c.o 3)) (.bool (c.o 4)) (.bool (c.o 5)) (.bool (c.o 6)) (.slice aR c.nr cR) (.slice aD c.nd cD) 26 rfl
  have k0 := H.cell (w.heap.size) 0 (.bool (c.o 0)) (List.Mem.head _)
  have k1 := H.cell (w.heap.size) 1 (.bool (c.o 1)) (List.Mem.tail _ (List.Mem.head _))
  have k2 := H.cell (w.heap.size) 2 (.bool (c.o 2)) (List.Mem.tail _ (List.Mem.tail _ (List.Mem.head _)))
  have k3 := H.cell (w.heap.size) 3 (.bool (c.o 3)) (List.Mem.tail _ (List.Mem.tail _ (List.Mem.tail _ (List.Mem.head _))))
  have k4 := H.cell (w.heap.size) 4 (.bool (c.o 4)) (List.Mem.tail _ (List.Mem.tail _ (List.Mem.tail _ (List.Mem.tail _ (List.Mem.head _)))))
  have k5 := H.cell (w.heap.size) 5 (.bool (c.o 5)) (List.Mem.tail _ (List.Mem.tail _ (List.Mem.tail _ (List.Mem.tail _ (List.Mem.tail _ (List.Mem.head _))))))
  have k6 := H.cell (w.heap.size) 6 (.bool (c.o 6)) (List.Mem.tail _ (List.Mem.tail _ (List.Mem.tail _ (List.Mem.tail _ (List.Mem.tail _ (List.Mem.tail _ (List.Mem.head _)))))))
  have k7 := H.cell (w.heap.size) 7 (.slice aR c.nr cR) (List.Mem.tail _ (List.Mem.tail _ (List.Mem.tail _ (List.Mem.tail _ (List.Mem.tail _ (List.Mem.tail _ (List.Mem.tail _ (List.Mem.head _))))))))
  have k8 := H.cell (w.heap.size) 8 (.slice aD c.nd cD) (List.Mem.tail _ (List.Mem.tail _ (List.Mem.tail _ (List.Mem.tail _ (List.Mem.tail _ (List.Mem.tail _ (List.Mem.tail _ (List.Mem.tail _ (List.Mem.head _)))))))))
  go_wp2_with fail
  (with_reducible refine (rnext14 c aR cR aD cD n v 0 _ HS.out HM.out (H.cal ((List.Mem.tail _ (List.Mem.tail _ (List.Mem.tail _ (List.Mem.tail _ (List.Mem.tail _ (List.Mem.tail _ (List.Mem.tail _ (List.Mem.tail _ (List.Mem.tail _ (List.Mem.tail _ (List.Mem.tail _ (List.Mem.tail _ (List.Mem.tail _ (List.Mem.tail _ (List.Mem.tail _ (List.Mem.tail _ (List.Mem.tail _ (List.Mem.tail _ (List.Mem.head _))))))))))))))))))))) C.out).mono ?_)
  clear k0 k1 k2 k3 k4 k5 k6 k7 k8
  rintro e w1 ⟨rfl, hb⟩
  replace H := H.below hb
  clear hb
  have k0 := H.cell (w.heap.size) 0 (.bool (c.o 0)) (List.Mem.head _)
  have k1 := H.cell (w.heap.size) 1 (.bool (c.o 1)) (List.Mem.tail _ (List.Mem.head _))
  have k2 := H.cell (w.heap.size) 2 (.bool (c.o 2)) (List.Mem.tail _ (List.Mem.tail _ (List.Mem.head _)))
  have k3 := H.cell (w.heap.size) 3 (.bool (c.o 3)) (List.Mem.tail _ (List.Mem.tail _ (List.Mem.tail _ (List.Mem.head _))))
  have k4 := H.cell (w.heap.size) 4 (.bool (c.o 4)) (List.Mem.tail _ (List.Mem.tail _ (List.Mem.tail _ (List.Mem.tail _ (List.Mem.head _)))))
  have k5 := H.cell (w.heap.size) 5 (.bool (c.o 5)) (List.Mem.tail _ (List.Mem.tail _ (List.Mem.tail _ (List.Mem.tail _ (List.Mem.tail _ (List.Mem.head _))))))
  have k6 := H.cell (w.heap.size) 6 (.bool (c.o 6)) (List.Mem.tail _ (List.Mem.tail _ (List.Mem.tail _ (List.Mem.tail _ (List.Mem.tail _ (List.Mem.tail _ (List.Mem.head _)))))))
  have k7 := H.cell (w.heap.size) 7 (.slice aR c.nr cR) (List.Mem.tail _ (List.Mem.tail _ (List.Mem.tail _ (List.Mem.tail _ (List.Mem.tail _ (List.Mem.tail _ (List.Mem.tail _ (List.Mem.head _))))))))
  have k8 := H.cell (w.heap.size) 8 (.slice aD c.nd cD) (List.Mem.tail _ (List.Mem.tail _ (List.Mem.tail _ (List.Mem.tail _ (List.Mem.tail _ (List.Mem.tail _ (List.Mem.tail _ (List.Mem.tail _ (List.Mem.head _)))))))))
  go_wp2_with fail
  (with_reducible refine (D.out _).mono ?_)
  clear k0 k1 k2 k3 k4 k5 k6 k7 k8
  rintro e w1 ⟨rfl, hb⟩
  replace H := H.below hb
  clear hb
  have k0 := H.cell (w.heap.size) 0 (.bool (c.o 0)) (List.Mem.head _)
  have k1 := H.cell (w.heap.size) 1 (.bool (c.o 1)) (List.Mem.tail _ (List.Mem.head _))
  have k2 := H.cell (w.heap.size) 2 (.bool (c.o 2)) (List.Mem.tail _ (List.Mem.tail _ (List.Mem.head _)))
  have k3 := H.cell (w.heap.size) 3 (.bool (c.o 3)) (List.Mem.tail _ (List.Mem.tail _ (List.Mem.tail _ (List.Mem.head _))))
  have k4 := H.cell (w.heap.size) 4 (.bool (c.o 4)) (List.Mem.tail _ (List.Mem.tail _ (List.Mem.tail _ (List.Mem.tail _ (List.Mem.head _)))))
  have k5 := H.cell (w.heap.size) 5 (.bool (c.o 5)) (List.Mem.tail _ (List.Mem.tail _ (List.Mem.tail _ (List.Mem.tail _ (List.Mem.tail _ (List.Mem.head _))))))
  have k6 := H.cell (w.heap.size) 6 (.bool (c.o 6)) (List.Mem.tail _ (List.Mem.tail _ (List.Mem.tail _ (List.Mem.tail _ (List.Mem.tail _ (List.Mem.tail _ (List.Mem.head _)))))))
  have k7 := H.cell (w.heap.size) 7 (.slice aR c.nr cR) (List.Mem.tail _ (List.Mem.tail _ (List.Mem.tail _ (List.Mem.tail _ (List.Mem.tail _ (List.Mem.tail _ (List.Mem.tail _ (List.Mem.head _))))))))
  have k8 := H.cell (w.heap.size) 8 (.slice aD c.nd cD) (List.Mem.tail _ (List.Mem.tail _ (List.Mem.tail _ (List.Mem.tail _ (List.Mem.tail _ (List.Mem.tail _ (List.Mem.tail _ (List.Mem.tail _ (List.Mem.head _)))))))))
  go_wp2
  go_ret2
  exact ⟨rfl, H.old⟩

set_option maxHeartbeats 4000000 in
theorem rto1f (c : Ca) (aR : Option Addr) (cR : Nat) (aD : Option Addr) (cD : Nat) (n v : Int)  (w : World) (hS : c.Small) (hM : ∀ j, j < c.nr → (c.R j).May) (hC : CalAt w c aR cR aD cD) (h : StepIs c (1) n v 0) (hs : ¬ sameM n v) : Calls Tryd.prog 13 #[.agg #[.bool (c.o 0), .bool (c.o 1), .bool (c.o 2), .bool (c.o 3), .bool (c.o 4), .bool (c.o 5), .bool (c.o 6), .slice aR c.nr cR, .slice aD c.nd cD], .int .i64 n, .int .i64 1] w fun e' w' => e' = .returned (.tuple #[.int .i64 v, .int .i64 0]) ∧ Below w.heap.size w w' := by
  have H := (Held.start w).add (f := calF c aR cR aD cD) hC
  have HS := Lib.hid hS
  have HM := Lib.hid hM
  clear hS hM hC
  have C := Lib.hid h
  have D := Lib.hid (fun u => rmonth14 n v false u (h.good rfl).1 (h.good rfl).2.1.1 ⟨fun g => absurd g (by decide), fun g => absurd g hs⟩)
  clear h hs
  go_enter Tryd.func13, Tryd.ntmps13
  replace H := H.box_9 (w.heap.size) (.bool (c.o 0)) (.bool (c.o 1)) (.bool (c.o 2)) (.bool (c.o 3)) (.bool (c.o 4)) (.bool (c.o 5)) (.bool (c.o 6)) (.slice aR c.nr cR) (.slice aD c.nd cD) 26 rfl
  have k0 := H.cell (w.heap.size) 0 (.bool (c.o 0)) (List.Mem.head _)
  have k1 := H.cell (w.heap.size) 1 (.bool (c.o 1)) (List.Mem.tail _ (List.Mem.head _))
  have k2 := H.cell (w.heap.size) 2 (.bool (c.o 2)) (List.Mem.tail _ (List.Mem.tail _ (List.Mem.head _)))
  have k3 := H.cell (w.heap.size) 3 (.bool (c.o 3)) (List.Mem.tail _ (List.Mem.tail _ (List.Mem.tail _ (List.Mem.head _))))
  have k4 := H.cell (w.heap.size) 4 (.bool (c.o 4)) (List.Mem.tail _ (List.Mem.tail _ (List.Mem.tail _ (List.Mem.tail _ (List.Mem.head _)))))
  have k5 := H.cell (w.heap.size) 5 (.bool (c.o 5)) (List.Mem.tail _ (List.Mem.tail _ (List.Mem.tail _ (List.Mem.tail _ (List.Mem.tail _ (List.Mem.head _))))))
  have k6 := H.cell (w.heap.size) 6 (.bool (c.o 6)) (List.Mem.tail _ (List.Mem.tail _ (List.Mem.tail _ (List.Mem.tail _ (List.Mem.tail _ (List.Mem.tail _ (List.Mem.head _)))))))
  have k7 := H.cell (w.heap.size) 7 (.slice aR c.nr cR) (List.Mem.tail _ (List.Mem.tail _ (List.Mem.tail _ (List.Mem.tail _ (List.Mem.tail _ (List.Mem.tail _ (List.Mem.tail _ (List.Mem.head _))))))))
  have k8 := H.cell (w.heap.size) 8 (.slice aD c.nd cD) (List.Mem.tail _ (List.Mem.tail _ (List.Mem.tail _ (List.Mem.tail _ (List.Mem.tail _ (List.Mem.tail _ (List.Mem.tail _ (List.Mem.tail _ (List.Mem.head _)))))))))
  go_wp2_with fail
  (with_reducible refine (rnext14 c aR cR aD cD n v 0 _ HS.out HM.out (H.cal ((List.Mem.tail _ (List.Mem.tail _ (List.Mem.tail _ (List.Mem.tail _ (List.Mem.tail _ (List.Mem.tail _ (List.Mem.tail _ (List.Mem.tail _ (List.Mem.tail _ (List.Mem.tail _ (List.Mem.tail _ (List.Mem.tail _ (List.Mem.tail _ (List.Mem.tail _ (List.Mem.tail _ (List.Mem.tail _ (List.Mem.tail _ (List.Mem.tail _ (List.Mem.head _))))))))))))))))))))) C.out).mono ?_)
  clear k0 k1 k2 k3 k4 k5 k6 k7 k8
  rintro e w1 ⟨rfl, hb⟩
  replace H := H.below hb
  clear hb
  have k0 := H.cell (w.heap.size) 0 (.bool (c.o 0)) (List.Mem.head _)
  have k1 := H.cell (w.heap.size) 1 (.bool (c.o 1)) (List.Mem.tail _ (List.Mem.head _))
  have k2 := H.cell (w.heap.size) 2 (.bool (c.o 2)) (List.Mem.tail _ (List.Mem.tail _ (List.Mem.head _)))
  have k3 := H.cell (w.heap.size) 3 (.bool (c.o 3)) (List.Mem.tail _ (List.Mem.tail _ (List.Mem.tail _ (List.Mem.head _))))
  have k4 := H.cell (w.heap.size) 4 (.bool (c.o 4)) (List.Mem.tail _ (List.Mem.tail _ (List.Mem.tail _ (List.Mem.tail _ (List.Mem.head _)))))
  have k5 := H.cell (w.heap.size) 5 (.bool (c.o 5)) (List.Mem.tail _ (List.Mem.tail _ (List.Mem.tail _ (List.Mem.tail _ (List.Mem.tail _ (List.Mem.head _))))))
  have k6 := H.cell (w.heap.size) 6 (.bool (c.o 6)) (List.Mem.tail _ (List.Mem.tail _ (List.Mem.tail _ (List.Mem.tail _ (List.Mem.tail _ (List.Mem.tail _ (List.Mem.head _)))))))
  have k7 := H.cell (w.heap.size) 7 (.slice aR c.nr cR) (List.Mem.tail _ (List.Mem.tail _ (List.Mem.tail _ (List.Mem.tail _ (List.Mem.tail _ (List.Mem.tail _ (List.Mem.tail _ (List.Mem.head _))))))))
  have k8 := H.cell (w.heap.size) 8 (.slice aD c.nd cD) (List.Mem.tail _ (List.Mem.tail _ (List.Mem.tail _ (List.Mem.tail _ (List.Mem.tail _ (List.Mem.tail _ (List.Mem.tail _ (List.Mem.tail _ (List.Mem.head _)))))))))
  go_wp2_with fail
  (with_reducible refine (D.out _).mono ?_)
  clear k0 k1 k2 k3 k4 k5 k6 k7 k8
  rintro e w1 ⟨rfl, hb⟩
  replace H := H.below hb
  clear hb
  have k0 := H.cell (w.heap.size) 0 (.bool (c.o 0)) (List.Mem.head _)
  have k1 := H.cell (w.heap.size) 1 (.bool (c.o 1)) (List.Mem.tail _ (List.Mem.head _))
  have k2 := H.cell (w.heap.size) 2 (.bool (c.o 2)) (List.Mem.tail _ (List.Mem.tail _ (List.Mem.head _)))
  have k3 := H.cell (w.heap.size) 3 (.bool (c.o 3)) (List.Mem.tail _ (List.Mem.tail _ (List.Mem.tail _ (List.Mem.head _))))
  have k4 := H.cell (w.heap.size) 4 (.bool (c.o 4)) (List.Mem.tail _ (List.Mem.tail _ (List.Mem.tail _ (List.Mem.tail _ (List.Mem.head _)))))
  have k5 := H.cell (w.heap.size) 5 (.bool (c.o 5)) (List.Mem.tail _ (List.Mem.tail _ (List.Mem.tail _ (List.Mem.tail _ (List.Mem.tail _ (List.Mem.head _))))))
  have k6 := H.cell (w.heap.size) 6 (.bool (c.o 6)) (List.Mem.tail _ (List.Mem.tail _ (List.Mem.tail _ (List.Mem.tail _ (List.Mem.tail _ (List.Mem.tail _ (List.Mem.head _)))))))
  have k7 := H.cell (w.heap.size) 7 (.slice aR c.nr cR) (List.Mem.tail _ (List.Mem.tail _ (List.Mem.tail _ (List.Mem.tail _ (List.Mem.tail _ (List.Mem.tail _ (List.Mem.tail _ (List.Mem.head _))))))))
  have k8 := H.cell (w.heap.size) 8 (.slice aD c.nd cD) (List.Mem.tail _ (List.Mem.tail _ (List.Mem.tail _ (List.Mem.tail _ (List.Mem.tail _ (List.Mem.tail _ (List.Mem.tail _ (List.Mem.tail _ (List.Mem.head _)))))))))
  go_wp2
  go_ret2
  exact ⟨rfl, H.old⟩

set_option maxHeartbeats 4000000 in
theorem rto2bad (c : Ca) (aR : Option Addr) (cR : Nat) (aD : Option Addr) (cD : Nat) (n v e : Int)  (w : World) (hS : c.Small) (hM : ∀ j, j < c.nr → (c.R j).May) (hC : CalAt w c aR cR aD cD) (h : StepIs c (1) n v e) (he : e ≠ 0) : Calls Tryd.prog 13 #[.agg #[.bool (c.o 0), .bool (c.o 1), .bool (c.o 2), .bool (c.o 3), .bool (c.o 4), .bool (c.o 5), .bool (c.o 6), .slice aR c.nr cR, .slice aD c.nd cD], .int .i64 n, .int .i64 2] w fun e' w' => e' = .returned (.tuple #[.int .i64 v, .int .i64 e]) ∧ Below w.heap.size w w' := by
  have H := (Held.start w).add (f := calF c aR cR aD cD) hC
  have HS := Lib.hid hS
  have HM := Lib.hid hM
  clear hS hM hC
  have C := Lib.hid h
  have z : (e == 0) = false := by simpa using he
  clear h he
  go_enter Tryd.func13, Tryd.ntmps13
  replace H := H.box_9 (w.heap.size) (.bool (c.o 0)) (.bool (c.o 1)) (.bool (c.o 2)) (.bool (c.o 3)) (.bool (c.o 4)) (.bool (c.o 5)) (.bool (c.o 6)) (.slice aR c.nr cR) (.slice aD c.nd cD) 26 rfl
  have k0 := H.cell (w.heap.size) 0 (.bool (c.o 0)) (List.Mem.head _)
  have k1 := H.cell (w.heap.size) 1 (.bool (c.o 1)) (List.Mem.tail _ (List.Mem.head _))
  have k2 := H.cell (w.heap.size) 2 (.bool (c.o 2)) (List.Mem.tail _ (List.Mem.tail _ (List.Mem.head _)))
  have k3 := H.cell (w.heap.size) 3 (.bool (c.o 3)) (List.Mem.tail _ (List.Mem.tail _ (List.Mem.tail _ (List.Mem.head _))))
  have k4 := H.cell (w.heap.size) 4 (.bool (c.o 4)) (List.Mem.tail _ (List.Mem.tail _ (List.Mem.tail _ (List.Mem.tail _ (List.Mem.head _)))))
  have k5 := H.cell (w.heap.size) 5 (.bool (c.o 5)) (List.Mem.tail _ (List.Mem.tail _ (List.Mem.tail _ (List.Mem.tail _ (List.Mem.tail _ (List.Mem.head _))))))
  have k6 := H.cell (w.heap.size) 6 (.bool (c.o 6)) (List.Mem.tail _ (List.Mem.tail _ (List.Mem.tail _ (List.Mem.tail _ (List.Mem.tail _ (List.Mem.tail _ (List.Mem.head _)))))))
  have k7 := H.cell (w.heap.size) 7 (.slice aR c.nr cR) (List.Mem.tail _ (List.Mem.tail _ (List.Mem.tail _ (List.Mem.tail _ (List.Mem.tail _ (List.Mem.tail _ (List.Mem.tail _ (List.Mem.head _))))))))
  have k8 := H.cell (w.heap.size) 8 (.slice aD c.nd cD) (List.Mem.tail _ (List.Mem.tail _ (List.Mem.tail _ (List.Mem.tail _ (List.Mem.tail _ (List.Mem.tail _ (List.Mem.tail _ (List.Mem.tail _ (List.Mem.head _)))))))))
  go_wp2_with fail
  (with_reducible refine (rnext14 c aR cR aD cD n v e _ HS.out HM.out (H.cal ((List.Mem.tail _ (List.Mem.tail _ (List.Mem.tail _ (List.Mem.tail _ (List.Mem.tail _ (List.Mem.tail _ (List.Mem.tail _ (List.Mem.tail _ (List.Mem.tail _ (List.Mem.tail _ (List.Mem.tail _ (List.Mem.tail _ (List.Mem.tail _ (List.Mem.tail _ (List.Mem.tail _ (List.Mem.tail _ (List.Mem.tail _ (List.Mem.tail _ (List.Mem.head _))))))))))))))))))))) C.out).mono ?_)
  clear k0 k1 k2 k3 k4 k5 k6 k7 k8
  rintro e w1 ⟨rfl, hb⟩
  replace H := H.below hb
  clear hb
  have k0 := H.cell (w.heap.size) 0 (.bool (c.o 0)) (List.Mem.head _)
  have k1 := H.cell (w.heap.size) 1 (.bool (c.o 1)) (List.Mem.tail _ (List.Mem.head _))
  have k2 := H.cell (w.heap.size) 2 (.bool (c.o 2)) (List.Mem.tail _ (List.Mem.tail _ (List.Mem.head _)))
  have k3 := H.cell (w.heap.size) 3 (.bool (c.o 3)) (List.Mem.tail _ (List.Mem.tail _ (List.Mem.tail _ (List.Mem.head _))))
  have k4 := H.cell (w.heap.size) 4 (.bool (c.o 4)) (List.Mem.tail _ (List.Mem.tail _ (List.Mem.tail _ (List.Mem.tail _ (List.Mem.head _)))))
  have k5 := H.cell (w.heap.size) 5 (.bool (c.o 5)) (List.Mem.tail _ (List.Mem.tail _ (List.Mem.tail _ (List.Mem.tail _ (List.Mem.tail _ (List.Mem.head _))))))
  have k6 := H.cell (w.heap.size) 6 (.bool (c.o 6)) (List.Mem.tail _ (List.Mem.tail _ (List.Mem.tail _ (List.Mem.tail _ (List.Mem.tail _ (List.Mem.tail _ (List.Mem.head _)))))))
  have k7 := H.cell (w.heap.size) 7 (.slice aR c.nr cR) (List.Mem.tail _ (List.Mem.tail _ (List.Mem.tail _ (List.Mem.tail _ (List.Mem.tail _ (List.Mem.tail _ (List.Mem.tail _ (List.Mem.head _))))))))
  have k8 := H.cell (w.heap.size) 8 (.slice aD c.nd cD) (List.Mem.tail _ (List.Mem.tail _ (List.Mem.tail _ (List.Mem.tail _ (List.Mem.tail _ (List.Mem.tail _ (List.Mem.tail _ (List.Mem.tail _ (List.Mem.head _)))))))))
  go_wp2
  go_ret2
  exact ⟨rfl, H.old⟩

set_option maxHeartbeats 4000000 in
theorem rto2t (c : Ca) (aR : Option Addr) (cR : Nat) (aD : Option Addr) (cD : Nat) (n v : Int)  (w : World) (hS : c.Small) (hM : ∀ j, j < c.nr → (c.R j).May) (hC : CalAt w c aR cR aD cD) (h : StepIs c (1) n v 0) (hs : sameM n v) : Calls Tryd.prog 13 #[.agg #[.bool (c.o 0), .bool (c.o 1), .bool (c.o 2), .bool (c.o 3), .bool (c.o 4), .bool (c.o 5), .bool (c.o 6), .slice aR c.nr cR, .slice aD c.nd cD], .int .i64 n, .int .i64 2] w fun e' w' => e' = .returned (.tuple #[.int .i64 v, .int .i64 0]) ∧ Below w.heap.size w w' := by
  have H := (Held.start w).add (f := calF c aR cR aD cD) hC
  have HS := Lib.hid hS
  have HM := Lib.hid hM
  clear hS hM hC
  have C := Lib.hid h
  have D := Lib.hid (fun u => rmonth14 n v true u (h.good rfl).1 (h.good rfl).2.1.1 ⟨fun _ => hs, fun _ => rfl⟩)
  clear h hs
  go_enter Tryd.func13, Tryd.ntmps13
  replace H := H.box_9 (w.heap.size) (.bool (c.o 0)) (.bool (c.o 1)) (.bool (c.o 2)) (.bool (c.o 3)) (.bool (c.o 4)) (.bool (c.o 5)) (.bool (c.o 6)) (.slice aR c.nr cR) (.slice aD c.nd cD) 26 rfl
  have k0 := H.cell (w.heap.size) 0 (.bool (c.o 0)) (List.Mem.head _)
  have k1 := H.cell (w.heap.size) 1 (.bool (c.o 1)) (List.Mem.tail _ (List.Mem.head _))
  have k2 := H.cell (w.heap.size) 2 (.bool (c.o 2)) (List.Mem.tail _ (List.Mem.tail _ (List.Mem.head _)))
  have k3 := H.cell (w.heap.size) 3 (.bool (c.o 3)) (List.Mem.tail _ (List.Mem.tail _ (List.Mem.tail _ (List.Mem.head _))))
  have k4 := H.cell (w.heap.size) 4 (.bool (c.o 4)) (List.Mem.tail _ (List.Mem.tail _ (List.Mem.tail _ (List.Mem.tail _ (List.Mem.head _)))))
  have k5 := H.cell (w.heap.size) 5 (.bool (c.o 5)) (List.Mem.tail _ (List.Mem.tail _ (List.Mem.tail _ (List.Mem.tail _ (List.Mem.tail _ (List.Mem.head _))))))
  have k6 := H.cell (w.heap.size) 6 (.bool (c.o 6)) (List.Mem.tail _ (List.Mem.tail _ (List.Mem.tail _ (List.Mem.tail _ (List.Mem.tail _ (List.Mem.tail _ (List.Mem.head _)))))))
  have k7 := H.cell (w.heap.size) 7 (.slice aR c.nr cR) (List.Mem.tail _ (List.Mem.tail _ (List.Mem.tail _ (List.Mem.tail _ (List.Mem.tail _ (List.Mem.tail _ (List.Mem.tail _ (List.Mem.head _))))))))
  have k8 := H.cell (w.heap.size) 8 (.slice aD c.nd cD) (List.Mem.tail _ (List.Mem.tail _ (List.Mem.tail _ (List.Mem.tail _ (List.Mem.tail _ (List.Mem.tail _ (List.Mem.tail _ (List.Mem.tail _ (List.Mem.head _)))))))))
  go_wp2_with fail
  (with_reducible refine (rnext14 c aR cR aD cD n v 0 _ HS.out HM.out (H.cal ((List.Mem.tail _ (List.Mem.tail _ (List.Mem.tail _ (List.Mem.tail _ (List.Mem.tail _ (List.Mem.tail _ (List.Mem.tail _ (List.Mem.tail _ (List.Mem.tail _ (List.Mem.tail _ (List.Mem.tail _ (List.Mem.tail _ (List.Mem.tail _ (List.Mem.tail _ (List.Mem.tail _ (List.Mem.tail _ (List.Mem.tail _ (List.Mem.tail _ (List.Mem.head _))))))))))))))))))))) C.out).mono ?_)
  clear k0 k1 k2 k3 k4 k5 k6 k7 k8
  rintro e w1 ⟨rfl, hb⟩
  replace H := H.below hb
  clear hb
  have k0 := H.cell (w.heap.size) 0 (.bool (c.o 0)) (List.Mem.head _)
  have k1 := H.cell (w.heap.size) 1 (.bool (c.o 1)) (List.Mem.tail _ (List.Mem.head _))
  have k2 := H.cell (w.heap.size) 2 (.bool (c.o 2)) (List.Mem.tail _ (List.Mem.tail _ (List.Mem.head _)))
  have k3 := H.cell (w.heap.size) 3 (.bool (c.o 3)) (List.Mem.tail _ (List.Mem.tail _ (List.Mem.tail _ (List.Mem.head _))))
  have k4 := H.cell (w.heap.size) 4 (.bool (c.o 4)) (List.Mem.tail _ (List.Mem.tail _ (List.Mem.tail _ (List.Mem.tail _ (List.Mem.head _)))))
  have k5 := H.cell (w.heap.size) 5 (.bool (c.o 5)) (List.Mem.tail _ (List.Mem.tail _ (List.Mem.tail _ (List.Mem.tail _ (List.Mem.tail _ (List.Mem.head _))))))
  have k6 := H.cell (w.heap.size) 6 (.bool (c.o 6)) (List.Mem.tail _ (List.Mem.tail _ (List.Mem.tail _ (List.Mem.tail _ (List.Mem.tail _ (List.Mem.tail _ (List.Mem.head _)))))))
  have k7 := H.cell (w.heap.size) 7 (.slice aR c.nr cR) (List.Mem.tail _ (List.Mem.tail _ (List.Mem.tail _ (List.Mem.tail _ (List.Mem.tail _ (List.Mem.tail _ (List.Mem.tail _ (List.Mem.head _))))))))
  have k8 := H.cell (w.heap.size) 8 (.slice aD c.nd cD) (List.Mem.tail _ (List.Mem.tail _ (List.Mem.tail _ (List.Mem.tail _ (List.Mem.tail _ (List.Mem.tail _ (List.Mem.tail _ (List.Mem.tail _ (List.Mem.head _)))))))))
  go_wp2_with fail
  (with_reducible refine (D.out _).mono ?_)
  clear k0 k1 k2 k3 k4 k5 k6 k7 k8
  rintro e w1 ⟨rfl, hb⟩
  replace H := H.below hb
  clear hb
  have k0 := H.cell (w.heap.size) 0 (.bool (c.o 0)) (List.Mem.head _)
  have k1 := H.cell (w.heap.size) 1 (.bool (c.o 1)) (List.Mem.tail _ (List.Mem.head _))
  have k2 := H.cell (w.heap.size) 2 (.bool (c.o 2)) (List.Mem.tail _ (List.Mem.tail _ (List.Mem.head _)))
  have k3 := H.cell (w.heap.size) 3 (.bool (c.o 3)) (List.Mem.tail _ (List.Mem.tail _ (List.Mem.tail _ (List.Mem.head _))))
  have k4 := H.cell (w.heap.size) 4 (.bool (c.o 4)) (List.Mem.tail _ (List.Mem.tail _ (List.Mem.tail _ (List.Mem.tail _ (List.Mem.head _)))))
  have k5 := H.cell (w.heap.size) 5 (.bool (c.o 5)) (List.Mem.tail _ (List.Mem.tail _ (List.Mem.tail _ (List.Mem.tail _ (List.Mem.tail _ (List.Mem.head _))))))
  have k6 := H.cell (w.heap.size) 6 (.bool (c.o 6)) (List.Mem.tail _ (List.Mem.tail _ (List.Mem.tail _ (List.Mem.tail _ (List.Mem.tail _ (List.Mem.tail _ (List.Mem.head _)))))))
  have k7 := H.cell (w.heap.size) 7 (.slice aR c.nr cR) (List.Mem.tail _ (List.Mem.tail _ (List.Mem.tail _ (List.Mem.tail _ (List.Mem.tail _ (List.Mem.tail _ (List.Mem.tail _ (List.Mem.head _))))))))
  have k8 := H.cell (w.heap.size) 8 (.slice aD c.nd cD) (List.Mem.tail _ (List.Mem.tail _ (List.Mem.tail _ (List.Mem.tail _ (List.Mem.tail _ (List.Mem.tail _ (List.Mem.tail _ (List.Mem.tail _ (List.Mem.head _)))))))))
  go_wp2
  go_ret2
  exact ⟨rfl, H.old⟩

set_option maxHeartbeats 4000000 in
theorem rto2f (c : Ca) (aR : Option Addr) (cR : Nat) (aD : Option Addr) (cD : Nat) (n v e : Int) (a : Int) (w : World) (hS : c.Small) (hM : ∀ j, j < c.nr → (c.R j).May) (hC : CalAt w c aR cR aD cD) (h : StepIs c (1) n a 0) (hs : ¬ sameM n a) (g : StepIs c (-1) n v e) : Calls Tryd.prog 13 #[.agg #[.bool (c.o 0), .bool (c.o 1), .bool (c.o 2), .bool (c.o 3), .bool (c.o 4), .bool (c.o 5), .bool (c.o 6), .slice aR c.nr cR, .slice aD c.nd cD], .int .i64 n, .int .i64 2] w fun e' w' => e' = .returned (.tuple #[.int .i64 v, .int .i64 e]) ∧ Below w.heap.size w w' := by
  have H := (Held.start w).add (f := calF c aR cR aD cD) hC
  have HS := Lib.hid hS
  have HM := Lib.hid hM
  clear hS hM hC
  have C := Lib.hid h
  have C2 := Lib.hid g
  have D := Lib.hid (fun u => rmonth14 n a false u (h.good rfl).1 (h.good rfl).2.1.1 ⟨fun g => absurd g (by decide), fun g => absurd g hs⟩)
  clear h hs g
  go_enter Tryd.func13, Tryd.ntmps13
  replace H := H.box_9 (w.heap.size) (.bool (c.o 0)) (.bool (c.o 1)) (.bool (c.o 2)) (.bool (c.o 3)) (.bool (c.o 4)) (.bool (c.o 5)) (.bool (c.o 6)) (.slice aR c.nr cR) (.slice aD c.nd cD) 26 rfl
  have k0 := H.cell (w.heap.size) 0 (.bool (c.o 0)) (List.Mem.head _)
  have k1 := H.cell (w.heap.size) 1 (.bool (c.o 1)) (List.Mem.tail _ (List.Mem.head _))
  have k2 := H.cell (w.heap.size) 2 (.bool (c.o 2)) (List.Mem.tail _ (List.Mem.tail _ (List.Mem.head _)))
  have k3 := H.cell (w.heap.size) 3 (.bool (c.o 3)) (List.Mem.tail _ (List.Mem.tail _ (List.Mem.tail _ (List.Mem.head _))))
  have k4 := H.cell (w.heap.size) 4 (.bool (c.o 4)) (List.Mem.tail _ (List.Mem.tail _ (List.Mem.tail _ (List.Mem.tail _ (List.Mem.head _)))))
  have k5 := H.cell (w.heap.size) 5 (.bool (c.o 5)) (List.Mem.tail _ (List.Mem.tail _ (List.Mem.tail _ (List.Mem.tail _ (List.Mem.tail _ (List.Mem.head _))))))
  have k6 := H.cell (w.heap.size) 6 (.bool (c.o 6)) (List.Mem.tail _ (List.Mem.tail _ (List.Mem.tail _ (List.Mem.tail _ (List.Mem.tail _ (List.Mem.tail _ (List.Mem.head _)))))))
  have k7 := H.cell (w.heap.size) 7 (.slice aR c.nr cR) (List.Mem.tail _ (List.Mem.tail _ (List.Mem.tail _ (List.Mem.tail _ (List.Mem.tail _ (List.Mem.tail _ (List.Mem.tail _ (List.Mem.head _))))))))
  have k8 := H.cell (w.heap.size) 8 (.slice aD c.nd cD) (List.Mem.tail _ (List.Mem.tail _ (List.Mem.tail _ (List.Mem.tail _ (List.Mem.tail _ (List.Mem.tail _ (List.Mem.tail _ (List.Mem.tail _ (List.Mem.head _)))))))))
  go_wp2_with fail
  (with_reducible refine (rnext14 c aR cR aD cD n a 0 _ HS.out HM.out (H.cal ((List.Mem.tail _ (List.Mem.tail _ (List.Mem.tail _ (List.Mem.tail _ (List.Mem.tail _ (List.Mem.tail _ (List.Mem.tail _ (List.Mem.tail _ (List.Mem.tail _ (List.Mem.tail _ (List.Mem.tail _ (List.Mem.tail _ (List.Mem.tail _ (List.Mem.tail _ (List.Mem.tail _ (List.Mem.tail _ (List.Mem.tail _ (List.Mem.tail _ (List.Mem.head _))))))))))))))))))))) C.out).mono ?_)
  clear k0 k1 k2 k3 k4 k5 k6 k7 k8
  rintro e w1 ⟨rfl, hb⟩
  replace H := H.below hb
  clear hb
  have k0 := H.cell (w.heap.size) 0 (.bool (c.o 0)) (List.Mem.head _)
  have k1 := H.cell (w.heap.size) 1 (.bool (c.o 1)) (List.Mem.tail _ (List.Mem.head _))
  have k2 := H.cell (w.heap.size) 2 (.bool (c.o 2)) (List.Mem.tail _ (List.Mem.tail _ (List.Mem.head _)))
  have k3 := H.cell (w.heap.size) 3 (.bool (c.o 3)) (List.Mem.tail _ (List.Mem.tail _ (List.Mem.tail _ (List.Mem.head _))))
  have k4 := H.cell (w.heap.size) 4 (.bool (c.o 4)) (List.Mem.tail _ (List.Mem.tail _ (List.Mem.tail _ (List.Mem.tail _ (List.Mem.head _)))))
  have k5 := H.cell (w.heap.size) 5 (.bool (c.o 5)) (List.Mem.tail _ (List.Mem.tail _ (List.Mem.tail _ (List.Mem.tail _ (List.Mem.tail _ (List.Mem.head _))))))
  have k6 := H.cell (w.heap.size) 6 (.bool (c.o 6)) (List.Mem.tail _ (List.Mem.tail _ (List.Mem.tail _ (List.Mem.tail _ (List.Mem.tail _ (List.Mem.tail _ (List.Mem.head _)))))))
  have k7 := H.cell (w.heap.size) 7 (.slice aR c.nr cR) (List.Mem.tail _ (List.Mem.tail _ (List.Mem.tail _ (List.Mem.tail _ (List.Mem.tail _ (List.Mem.tail _ (List.Mem.tail _ (List.Mem.head _))))))))
  have k8 := H.cell (w.heap.size) 8 (.slice aD c.nd cD) (List.Mem.tail _ (List.Mem.tail _ (List.Mem.tail _ (List.Mem.tail _ (List.Mem.tail _ (List.Mem.tail _ (List.Mem.tail _ (List.Mem.tail _ (List.Mem.head _)))))))))
  go_wp2_with fail
  (with_reducible refine (D.out _).mono ?_)
  clear k0 k1 k2 k3 k4 k5 k6 k7 k8
  rintro e w1 ⟨rfl, hb⟩
  replace H := H.below hb
  clear hb
  have k0 := H.cell (w.heap.size) 0 (.bool (c.o 0)) (List.Mem.head _)
  have k1 := H.cell (w.heap.size) 1 (.bool (c.o 1)) (List.Mem.tail _ (List.Mem.head _))
  have k2 := H.cell (w.heap.size) 2 (.bool (c.o 2)) (List.Mem.tail _ (List.Mem.tail _ (List.Mem.head _)))
  have k3 := H.cell (w.heap.size) 3 (.bool (c.o 3)) (List.Mem.tail _ (List.Mem.tail _ (List.Mem.tail _ (List.Mem.head _))))
  have k4 := H.cell (w.heap.size) 4 (.bool (c.o 4)) (List.Mem.tail _ (List.Mem.tail _ (List.Mem.tail _ (List.Mem.tail _ (List.Mem.head _)))))
  have k5 := H.cell (w.heap.size) 5 (.bool (c.o 5)) (List.Mem.tail _ (List.Mem.tail _ (List.Mem.tail _ (List.Mem.tail _ (List.Mem.tail _ (List.Mem.head _))))))
  have k6 := H.cell (w.heap.size) 6 (.bool (c.o 6)) (List.Mem.tail _ (List.Mem.tail _ (List.Mem.tail _ (List.Mem.tail _ (List.Mem.tail _ (List.Mem.tail _ (List.Mem.head _)))))))
  have k7 := H.cell (w.heap.size) 7 (.slice aR c.nr cR) (List.Mem.tail _ (List.Mem.tail _ (List.Mem.tail _ (List.Mem.tail _ (List.Mem.tail _ (List.Mem.tail _ (List.Mem.tail _ (List.Mem.head _))))))))
  have k8 := H.cell (w.heap.size) 8 (.slice aD c.nd cD) (List.Mem.tail _ (List.Mem.tail _ (List.Mem.tail _ (List.Mem.tail _ (List.Mem.tail _ (List.Mem.tail _ (List.Mem.tail _ (List.Mem.tail _ (List.Mem.head _)))))))))
  go_wp2_with fail
  (with_reducible refine (rprev14 c aR cR aD cD n v e _ HS.out HM.out (H.cal ((List.Mem.tail _ (List.Mem.tail _ (List.Mem.tail _ (List.Mem.tail _ (List.Mem.tail _ (List.Mem.tail _ (List.Mem.tail _ (List.Mem.tail _ (List.Mem.tail _ (List.Mem.tail _ (List.Mem.tail _ (List.Mem.tail _ (List.Mem.tail _ (List.Mem.tail _ (List.Mem.tail _ (List.Mem.tail _ (List.Mem.tail _ (List.Mem.tail _ (List.Mem.head _))))))))))))))))))))) C2.out).mono ?_)
  clear k0 k1 k2 k3 k4 k5 k6 k7 k8
  rintro e w1 ⟨rfl, hb⟩
  replace H := H.below hb
  clear hb
  go_wp2
  go_ret2
  exact ⟨rfl, H.old⟩

set_option maxHeartbeats 4000000 in
theorem rto3bad (c : Ca) (aR : Option Addr) (cR : Nat) (aD : Option Addr) (cD : Nat) (n v e : Int)  (w : World) (hS : c.Small) (hM : ∀ j, j < c.nr → (c.R j).May) (hC : CalAt w c aR cR aD cD) (h : StepIs c (-1) n v e) (he : e ≠ 0) : Calls Tryd.prog 13 #[.agg #[.bool (c.o 0), .bool (c.o 1), .bool (c.o 2), .bool (c.o 3), .bool (c.o 4), .bool (c.o 5), .bool (c.o 6), .slice aR c.nr cR, .slice aD c.nd cD], .int .i64 n, .int .i64 3] w fun e' w' => e' = .returned (.tuple #[.int .i64 v, .int .i64 e]) ∧ Below w.heap.size w w' := by
  have H := (Held.start w).add (f := calF c aR cR aD cD) hC
  have HS := Lib.hid hS
  have HM := Lib.hid hM
  clear hS hM hC
  have C := Lib.hid h
  have z : (e == 0) = false := by simpa using he
  clear h he
  go_enter Tryd.func13, Tryd.ntmps13
  replace H := H.box_9 (w.heap.size) (.bool (c.o 0)) (.bool (c.o 1)) (.bool (c.o 2)) (.bool (c.o 3)) (.bool (c.o 4)) (.bool (c.o 5)) (.bool (c.o 6)) (.slice aR c.nr cR) (.slice aD c.nd cD) 26 rfl
  have k0 := H.cell (w.heap.size) 0 (.bool (c.o 0)) (List.Mem.head _)
  have k1 := H.cell (w.heap.size) 1 (.bool (c.o 1)) (List.Mem.tail _ (List.Mem.head _))
  have k2 := H.cell (w.heap.size) 2 (.bool (c.o 2)) (List.Mem.tail _ (List.Mem.tail _ (List.Mem.head _)))
  have k3 := H.cell (w.heap.size) 3 (.bool (c.o 3)) (List.Mem.tail _ (List.Mem.tail _ (List.Mem.tail _ (List.Mem.head _))))
  have k4 := H.cell (w.heap.size) 4 (.bool (c.o 4)) (List.Mem.tail _ (List.Mem.tail _ (List.Mem.tail _ (List.Mem.tail _ (List.Mem.head _)))))
  have k5 := H.cell (w.heap.size) 5 (.bool (c.o 5)) (List.Mem.tail _ (List.Mem.tail _ (List.Mem.tail _ (List.Mem.tail _ (List.Mem.tail _ (List.Mem.head _))))))
  have k6 := H.cell (w.heap.size) 6 (.bool (c.o 6)) (List.Mem.tail _ (List.Mem.tail _ (List.Mem.tail _ (List.Mem.tail _ (List.Mem.tail _ (List.Mem.tail _ (List.Mem.head _)))))))
  have k7 := H.cell (w.heap.size) 7 (.slice aR c.nr cR) (List.Mem.tail _ (List.Mem.tail _ (List.Mem.tail _ (List.Mem.tail _ (List.Mem.tail _ (List.Mem.tail _ (List.Mem.tail _ (List.Mem.head _))))))))
  have k8 := H.cell (w.heap.size) 8 (.slice aD c.nd cD) (List.Mem.tail _ (List.Mem.tail _ (List.Mem.tail _ (List.Mem.tail _ (List.Mem.tail _ (List.Mem.tail _ (List.Mem.tail _ (List.Mem.tail _ (List.Mem.head _)))))))))
  go_wp2_with fail
  (with_reducible refine (rprev14 c aR cR aD cD n v e _ HS.out HM.out (H.cal ((List.Mem.tail _ (List.Mem.tail _ (List.Mem.tail _ (List.Mem.tail _ (List.Mem.tail _ (List.Mem.tail _ (List.Mem.tail _ (List.Mem.tail _ (List.Mem.tail _ (List.Mem.tail _ (List.Mem.tail _ (List.Mem.tail _ (List.Mem.tail _ (List.Mem.tail _ (List.Mem.tail _ (List.Mem.tail _ (List.Mem.tail _ (List.Mem.tail _ (List.Mem.head _))))))))))))))))))))) C.out).mono ?_)
  clear k0 k1 k2 k3 k4 k5 k6 k7 k8
  rintro e w1 ⟨rfl, hb⟩
  replace H := H.below hb
  clear hb
  have k0 := H.cell (w.heap.size) 0 (.bool (c.o 0)) (List.Mem.head _)
  have k1 := H.cell (w.heap.size) 1 (.bool (c.o 1)) (List.Mem.tail _ (List.Mem.head _))
  have k2 := H.cell (w.heap.size) 2 (.bool (c.o 2)) (List.Mem.tail _ (List.Mem.tail _ (List.Mem.head _)))
  have k3 := H.cell (w.heap.size) 3 (.bool (c.o 3)) (List.Mem.tail _ (List.Mem.tail _ (List.Mem.tail _ (List.Mem.head _))))
  have k4 := H.cell (w.heap.size) 4 (.bool (c.o 4)) (List.Mem.tail _ (List.Mem.tail _ (List.Mem.tail _ (List.Mem.tail _ (List.Mem.head _)))))
  have k5 := H.cell (w.heap.size) 5 (.bool (c.o 5)) (List.Mem.tail _ (List.Mem.tail _ (List.Mem.tail _ (List.Mem.tail _ (List.Mem.tail _ (List.Mem.head _))))))
  have k6 := H.cell (w.heap.size) 6 (.bool (c.o 6)) (List.Mem.tail _ (List.Mem.tail _ (List.Mem.tail _ (List.Mem.tail _ (List.Mem.tail _ (List.Mem.tail _ (List.Mem.head _)))))))
  have k7 := H.cell (w.heap.size) 7 (.slice aR c.nr cR) (List.Mem.tail _ (List.Mem.tail _ (List.Mem.tail _ (List.Mem.tail _ (List.Mem.tail _ (List.Mem.tail _ (List.Mem.tail _ (List.Mem.head _))))))))
  have k8 := H.cell (w.heap.size) 8 (.slice aD c.nd cD) (List.Mem.tail _ (List.Mem.tail _ (List.Mem.tail _ (List.Mem.tail _ (List.Mem.tail _ (List.Mem.tail _ (List.Mem.tail _ (List.Mem.tail _ (List.Mem.head _)))))))))
  go_wp2
  go_ret2
  exact ⟨rfl, H.old⟩

set_option maxHeartbeats 4000000 in
theorem rto3t (c : Ca) (aR : Option Addr) (cR : Nat) (aD : Option Addr) (cD : Nat) (n v : Int)  (w : World) (hS : c.Small) (hM : ∀ j, j < c.nr → (c.R j).May) (hC : CalAt w c aR cR aD cD) (h : StepIs c (-1) n v 0) (hs : sameM n v) : Calls Tryd.prog 13 #[.agg #[.bool (c.o 0), .bool (c.o 1), .bool (c.o 2), .bool (c.o 3), .bool (c.o 4), .bool (c.o 5), .bool (c.o 6), .slice aR c.nr cR, .slice aD c.nd cD], .int .i64 n, .int .i64 3] w fun e' w' => e' = .returned (.tuple #[.int .i64 v, .int .i64 0]) ∧ Below w.heap.size w w' := by
  have H := (Held.start w).add (f := calF c aR cR aD cD) hC
  have HS := Lib.hid hS
  have HM := Lib.hid hM
  clear hS hM hC
  have C := Lib.hid h
  have D := Lib.hid (fun u => rmonth14 n v true u (h.good rfl).1 (h.good rfl).2.1.1 ⟨fun _ => hs, fun _ => rfl⟩)
  clear h hs
  go_enter Tryd.func13, Tryd.ntmps13
  replace H := H.box_9 (w.heap.size) (.bool (c.o 0)) (.bool (c.o 1)) (.bool (c.o 2)) (.bool (c.o 3)) (.bool (c.o 4)) (.bool (c.o 5)) (.bool (c.o 6)) (.slice aR c.nr cR) (.slice aD c.nd cD) 26 rfl
  have k0 := H.cell (w.heap.size) 0 (.bool (c.o 0)) (List.Mem.head _)
  have k1 := H.cell (w.heap.size) 1 (.bool (c.o 1)) (List.Mem.tail _ (List.Mem.head _))
  have k2 := H.cell (w.heap.size) 2 (.bool (c.o 2)) (List.Mem.tail _ (List.Mem.tail _ (List.Mem.head _)))
  have k3 := H.cell (w.heap.size) 3 (.bool (c.o 3)) (List.Mem.tail _ (List.Mem.tail _ (List.Mem.tail _ (List.Mem.head _))))
  have k4 := H.cell (w.heap.size) 4 (.bool (c.o 4)) (List.Mem.tail _ (List.Mem.tail _ (List.Mem.tail _ (List.Mem.tail _ (List.Mem.head _)))))
  have k5 := H.cell (w.heap.size) 5 (.bool (c.o 5)) (List.Mem.tail _ (List.Mem.tail _ (List.Mem.tail _ (List.Mem.tail _ (List.Mem.tail _ (List.Mem.head _))))))
  have k6 := H.cell (w.heap.size) 6 (.bool (c.o 6)) (List.Mem.tail _ (List.Mem.tail _ (List.Mem.tail _ (List.Mem.tail _ (List.Mem.tail _ (List.Mem.tail _ (List.Mem.head _)))))))
  have k7 := H.cell (w.heap.size) 7 (.slice aR c.nr cR) (List.Mem.tail _ (List.Mem.tail _ (List.Mem.tail _ (List.Mem.tail _ (List.Mem.tail _ (List.Mem.tail _ (List.Mem.tail _ (List.Mem.head _))))))))
  have k8 := H.cell (w.heap.size) 8 (.slice aD c.nd cD) (List.Mem.tail _ (List.Mem.tail _ (List.Mem.tail _ (List.Mem.tail _ (List.Mem.tail _ (List.Mem.tail _ (List.Mem.tail _ (List.Mem.tail _ (List.Mem.head _)))))))))
  go_wp2_with fail
  (with_reducible refine (rprev14 c aR cR aD cD n v 0 _ HS.out HM.out (H.cal ((List.Mem.tail _ (List.Mem.tail _ (List.Mem.tail _ (List.Mem.tail _ (List.Mem.tail _ (List.Mem.tail _ (List.Mem.tail _ (List.Mem.tail _ (List.Mem.tail _ (List.Mem.tail _ (List.Mem.tail _ (List.Mem.tail _ (List.Mem.tail _ (List.Mem.tail _ (List.Mem.tail _ (List.Mem.tail _ (List.Mem.tail _ (List.Mem.tail _ (List.Mem.head _))))))))))))))))))))) C.out).mono ?_)
  clear k0 k1 k2 k3 k4 k5 k6 k7 k8
  rintro e w1 ⟨rfl, hb⟩
  replace H := H.below hb
  clear hb
  have k0 := H.cell (w.heap.size) 0 (.bool (c.o 0)) (List.Mem.head _)
  have k1 := H.cell (w.heap.size) 1 (.bool (c.o 1)) (List.Mem.tail _ (List.Mem.head _))
  have k2 := H.cell (w.heap.size) 2 (.bool (c.o 2)) (List.Mem.tail _ (List.Mem.tail _ (List.Mem.head _)))
  have k3 := H.cell (w.heap.size) 3 (.bool (c.o 3)) (List.Mem.tail _ (List.Mem.tail _ (List.Mem.tail _ (List.Mem.head _))))
  have k4 := H.cell (w.heap.size) 4 (.bool (c.o 4)) (List.Mem.tail _ (List.Mem.tail _ (List.Mem.tail _ (List.Mem.tail _ (List.Mem.head _)))))
  have k5 := H.cell (w.heap.size) 5 (.bool (c.o 5)) (List.Mem.tail _ (List.Mem.tail _ (List.Mem.tail _ (List.Mem.tail _ (List.Mem.tail _ (List.Mem.head _))))))
  have k6 := H.cell (w.heap.size) 6 (.bool (c.o 6)) (List.Mem.tail _ (List.Mem.tail _ (List.Mem.tail _ (List.Mem.tail _ (List.Mem.tail _ (List.Mem.tail _ (List.Mem.head _)))))))
  have k7 := H.cell (w.heap.size) 7 (.slice aR c.nr cR) (List.Mem.tail _ (List.Mem.tail _ (List.Mem.tail _ (List.Mem.tail _ (List.Mem.tail _ (List.Mem.tail _ (List.Mem.tail _ (List.Mem.head _))))))))
  have k8 := H.cell (w.heap.size) 8 (.slice aD c.nd cD) (List.Mem.tail _ (List.Mem.tail _ (List.Mem.tail _ (List.Mem.tail _ (List.Mem.tail _ (List.Mem.tail _ (List.Mem.tail _ (List.Mem.tail _ (List.Mem.head _)))))))))
  go_wp2_with fail
  (with_reducible refine (D.out _).mono ?_)
  clear k0 k1 k2 k3 k4 k5 k6 k7 k8
  rintro e w1 ⟨rfl, hb⟩
  replace H := H.below hb
  clear hb
  have k0 := H.cell (w.heap.size) 0 (.bool (c.o 0)) (List.Mem.head _)
  have k1 := H.cell (w.heap.size) 1 (.bool (c.o 1)) (List.Mem.tail _ (List.Mem.head _))
  have k2 := H.cell (w.heap.size) 2 (.bool (c.o 2)) (List.Mem.tail _ (List.Mem.tail _ (List.Mem.head _)))
  have k3 := H.cell (w.heap.size) 3 (.bool (c.o 3)) (List.Mem.tail _ (List.Mem.tail _ (List.Mem.tail _ (List.Mem.head _))))
  have k4 := H.cell (w.heap.size) 4 (.bool (c.o 4)) (List.Mem.tail _ (List.Mem.tail _ (List.Mem.tail _ (List.Mem.tail _ (List.Mem.head _)))))
  have k5 := H.cell (w.heap.size) 5 (.bool (c.o 5)) (List.Mem.tail _ (List.Mem.tail _ (List.Mem.tail _ (List.Mem.tail _ (List.Mem.tail _ (List.Mem.head _))))))
  have k6 := H.cell (w.heap.size) 6 (.bool (c.o 6)) (List.Mem.tail _ (List.Mem.tail _ (List.Mem.tail _ (List.Mem.tail _ (List.Mem.tail _ (List.Mem.tail _ (List.Mem.head _)))))))
  have k7 := H.cell (w.heap.size) 7 (.slice aR c.nr cR) (List.Mem.tail _ (List.Mem.tail _ (List.Mem.tail _ (List.Mem.tail _ (List.Mem.tail _ (List.Mem.tail _ (List.Mem.tail _ (List.Mem.head _))))))))
  have k8 := H.cell (w.heap.size) 8 (.slice aD c.nd cD) (List.Mem.tail _ (List.Mem.tail _ (List.Mem.tail _ (List.Mem.tail _ (List.Mem.tail _ (List.Mem.tail _ (List.Mem.tail _ (List.Mem.tail _ (List.Mem.head _)))))))))
  go_wp2
  go_ret2
  exact ⟨rfl, H.old⟩

set_option maxHeartbeats 4000000 in
theorem rto3f (c : Ca) (aR : Option Addr) (cR : Nat) (aD : Option Addr) (cD : Nat) (n v : Int)  (w : World) (hS : c.Small) (hM : ∀ j, j < c.nr → (c.R j).May) (hC : CalAt w c aR cR aD cD) (h : StepIs c (-1) n v 0) (hs : ¬ sameM n v) : Calls Tryd.prog 13 #[.agg #[.bool (c.o 0), .bool (c.o 1), .bool (c.o 2), .bool (c.o 3), .bool (c.o 4), .bool (c.o 5), .bool (c.o 6), .slice aR c.nr cR, .slice aD c.nd cD], .int .i64 n, .int .i64 3] w fun e' w' => e' = .returned (.tuple #[.int .i64 v, .int .i64 0]) ∧ Below w.heap.size w w' := by
  have H := (Held.start w).add (f := calF c aR cR aD cD) hC
  have HS := Lib.hid hS
  have HM := Lib.hid hM
  clear hS hM hC
  have C := Lib.hid h
  have D := Lib.hid (fun u => rmonth14 n v false u (h.good rfl).1 (h.good rfl).2.1.1 ⟨fun g => absurd g (by decide), fun g => absurd g hs⟩)
  clear h hs
  go_enter Tryd.func13, Tryd.ntmps13
  replace H := H.box_9 (w.heap.size) (.bool (c.o 0)) (.bool (c.o 1)) (.bool (c.o 2)) (.bool (c.o 3)) (.bool (c.o 4)) (.bool (c.o 5)) (.bool (c.o 6)) (.slice aR c.nr cR) (.slice aD c.nd cD) 26 rfl
  have k0 := H.cell (w.heap.size) 0 (.bool (c.o 0)) (List.Mem.head _)
  have k1 := H.cell (w.heap.size) 1 (.bool (c.o 1)) (List.Mem.tail _ (List.Mem.head _))
  have k2 := H.cell (w.heap.size) 2 (.bool (c.o 2)) (List.Mem.tail _ (List.Mem.tail _ (List.Mem.head _)))
  have k3 := H.cell (w.heap.size) 3 (.bool (c.o 3)) (List.Mem.tail _ (List.Mem.tail _ (List.Mem.tail _ (List.Mem.head _))))
  have k4 := H.cell (w.heap.size) 4 (.bool (c.o 4)) (List.Mem.tail _ (List.Mem.tail _ (List.Mem.tail _ (List.Mem.tail _ (List.Mem.head _)))))
  have k5 := H.cell (w.heap.size) 5 (.bool (c.o 5)) (List.Mem.tail _ (List.Mem.tail _ (List.Mem.tail _ (List.Mem.tail _ (List.Mem.tail _ (List.Mem.head _))))))
  have k6 := H.cell (w.heap.size) 6 (.bool (c.o 6)) (List.Mem.tail _ (List.Mem.tail _ (List.Mem.tail _ (List.Mem.tail _ (List.Mem.tail _ (List.Mem.tail _ (List.Mem.head _)))))))
  have k7 := H.cell (w.heap.size) 7 (.slice aR c.nr cR) (List.Mem.tail _ (List.Mem.tail _ (List.Mem.tail _ (List.Mem.tail _ (List.Mem.tail _ (List.Mem.tail _ (List.Mem.tail _ (List.Mem.head _))))))))
  have k8 := H.cell (w.heap.size) 8 (.slice aD c.nd cD) (List.Mem.tail _ (List.Mem.tail _ (List.Mem.tail _ (List.Mem.tail _ (List.Mem.tail _ (List.Mem.tail _ (List.Mem.tail _ (List.Mem.tail _ (List.Mem.head _)))))))))
  go_wp2_with fail
  (with_reducible refine (rprev14 c aR cR aD cD n v 0 _ HS.out HM.out (H.cal ((List.Mem.tail _ (List.Mem.tail _ (List.Mem.tail _ (List.Mem.tail _ (List.Mem.tail _ (List.Mem.tail _ (List.Mem.tail _ (List.Mem.tail _ (List.Mem.tail _ (List.Mem.tail _ (List.Mem.tail _ (List.Mem.tail _ (List.Mem.tail _ (List.Mem.tail _ (List.Mem.tail _ (List.Mem.tail _ (List.Mem.tail _ (List.Mem.tail _ (List.Mem.head _))))))))))))))))))))) C.out).mono ?_)
  clear k0 k1 k2 k3 k4 k5 k6 k7 k8
  rintro e w1 ⟨rfl, hb⟩
  replace H := H.below hb
  clear hb
  have k0 := H.cell (w.heap.size) 0 (.bool (c.o 0)) (List.Mem.head _)
  have k1 := H.cell (w.heap.size) 1 (.bool (c.o 1)) (List.Mem.tail _ (List.Mem.head _))
  have k2 := H.cell (w.heap.size) 2 (.bool (c.o 2)) (List.Mem.tail _ (List.Mem.tail _ (List.Mem.head _)))
  have k3 := H.cell (w.heap.size) 3 (.bool (c.o 3)) (List.Mem.tail _ (List.Mem.tail _ (List.Mem.tail _ (List.Mem.head _))))
  have k4 := H.cell (w.heap.size) 4 (.bool (c.o 4)) (List.Mem.tail _ (List.Mem.tail _ (List.Mem.tail _ (List.Mem.tail _ (List.Mem.head _)))))
  have k5 := H.cell (w.heap.size) 5 (.bool (c.o 5)) (List.Mem.tail _ (List.Mem.tail _ (List.Mem.tail _ (List.Mem.tail _ (List.Mem.tail _ (List.Mem.head _))))))
  have k6 := H.cell (w.heap.size) 6 (.bool (c.o 6)) (List.Mem.tail _ (List.Mem.tail _ (List.Mem.tail _ (List.Mem.tail _ (List.Mem.tail _ (List.Mem.tail _ (List.Mem.head _)))))))
  have k7 := H.cell (w.heap.size) 7 (.slice aR c.nr cR) (List.Mem.tail _ (List.Mem.tail _ (List.Mem.tail _ (List.Mem.tail _ (List.Mem.tail _ (List.Mem.tail _ (List.Mem.tail _ (List.Mem.head _))))))))
  have k8 := H.cell (w.heap.size) 8 (.slice aD c.nd cD) (List.Mem.tail _ (List.Mem.tail _ (List.Mem.tail _ (List.Mem.tail _ (List.Mem.tail _ (List.Mem.tail _ (List.Mem.tail _ (List.Mem.tail _ (List.Mem.head _)))))))))
  go_wp2_with fail
  (with_reducible refine (D.out _).mono ?_)
  clear k0 k1 k2 k3 k4 k5 k6 k7 k8
  rintro e w1 ⟨rfl, hb⟩
  replace H := H.below hb
  clear hb
  have k0 := H.cell (w.heap.size) 0 (.bool (c.o 0)) (List.Mem.head _)
  have k1 := H.cell (w.heap.size) 1 (.bool (c.o 1)) (List.Mem.tail _ (List.Mem.head _))
  have k2 := H.cell (w.heap.size) 2 (.bool (c.o 2)) (List.Mem.tail _ (List.Mem.tail _ (List.Mem.head _)))
  have k3 := H.cell (w.heap.size) 3 (.bool (c.o 3)) (List.Mem.tail _ (List.Mem.tail _ (List.Mem.tail _ (List.Mem.head _))))
  have k4 := H.cell (w.heap.size) 4 (.bool (c.o 4)) (List.Mem.tail _ (List.Mem.tail _ (List.Mem.tail _ (List.Mem.tail _ (List.Mem.head _)))))
  have k5 := H.cell (w.heap.size) 5 (.bool (c.o 5)) (List.Mem.tail _ (List.Mem.tail _ (List.Mem.tail _ (List.Mem.tail _ (List.Mem.tail _ (List.Mem.head _))))))
  have k6 := H.cell (w.heap.size) 6 (.bool (c.o 6)) (List.Mem.tail _ (List.Mem.tail _ (List.Mem.tail _ (List.Mem.tail _ (List.Mem.tail _ (List.Mem.tail _ (List.Mem.head _)))))))
  have k7 := H.cell (w.heap.size) 7 (.slice aR c.nr cR) (List.Mem.tail _ (List.Mem.tail _ (List.Mem.tail _ (List.Mem.tail _ (List.Mem.tail _ (List.Mem.tail _ (List.Mem.tail _ (List.Mem.head _))))))))
  have k8 := H.cell (w.heap.size) 8 (.slice aD c.nd cD) (List.Mem.tail _ (List.Mem.tail _ (List.Mem.tail _ (List.Mem.tail _ (List.Mem.tail _ (List.Mem.tail _ (List.Mem.tail _ (List.Mem.tail _ (List.Mem.head _)))))))))
  go_wp2
  go_ret2
  exact ⟨rfl, H.old⟩

set_option maxHeartbeats 4000000 in
theorem rto4bad (c : Ca) (aR : Option Addr) (cR : Nat) (aD : Option Addr) (cD : Nat) (n v e : Int)  (w : World) (hS : c.Small) (hM : ∀ j, j < c.nr → (c.R j).May) (hC : CalAt w c aR cR aD cD) (h : StepIs c (-1) n v e) (he : e ≠ 0) : Calls Tryd.prog 13 #[.agg #[.bool (c.o 0), .bool (c.o 1), .bool (c.o 2), .bool (c.o 3), .bool (c.o 4), .bool (c.o 5), .bool (c.o 6), .slice aR c.nr cR, .slice aD c.nd cD], .int .i64 n, .int .i64 4] w fun e' w' => e' = .returned (.tuple #[.int .i64 v, .int .i64 e]) ∧ Below w.heap.size w w' := by
  have H := (Held.start w).add (f := calF c aR cR aD cD) hC
  have HS := Lib.hid hS
  have HM := Lib.hid hM
  clear hS hM hC
  have C := Lib.hid h
  have z : (e == 0) = false := by simpa using he
  clear h he
  go_enter Tryd.func13, Tryd.ntmps13
  replace H := H.box_9 (w.heap.size) (.bool (c.o 0)) (.bool (c.o 1)) (.bool (c.o 2)) (.bool (c.o 3)) (.bool (c.o 4)) (.bool (c.o 5)) (.bool (c.o 6)) (.slice aR c.nr cR) (.slice aD c.nd cD) 26 rfl
  have k0 := H.cell (w.heap.size) 0 (.bool (c.o 0)) (List.Mem.head _)
  have k1 := H.cell (w.heap.size) 1 (.bool (c.o 1)) (List.Mem.tail _ (List.Mem.head _))
  have k2 := H.cell (w.heap.size) 2 (.bool (c.o 2)) (List.Mem.tail _ (List.Mem.tail _ (List.Mem.head _)))
  have k3 := H.cell (w.heap.size) 3 (.bool (c.o 3)) (List.Mem.tail _ (List.Mem.tail _ (List.Mem.tail _ (List.Mem.head _))))
  have k4 := H.cell (w.heap.size) 4 (.bool (c.o 4)) (List.Mem.tail _ (List.Mem.tail _ (List.Mem.tail _ (List.Mem.tail _ (List.Mem.head _)))))
  have k5 := H.cell (w.heap.size) 5 (.bool (c.o 5)) (List.Mem.tail _ (List.Mem.tail _ (List.Mem.tail _ (List.Mem.tail _ (List.Mem.tail _ (List.Mem.head _))))))
  have k6 := H.cell (w.heap.size) 6 (.bool (c.o 6)) (List.Mem.tail _ (List.Mem.tail _ (List.Mem.tail _ (List.Mem.tail _ (List.Mem.tail _ (List.Mem.tail _ (List.Mem.head _)))))))
  have k7 := H.cell (w.heap.size) 7 (.slice aR c.nr cR) (List.Mem.tail _ (List.Mem.tail _ (List.Mem.tail _ (List.Mem.tail _ (List.Mem.tail _ (List.Mem.tail _ (List.Mem.tail _ (List.Mem.head _))))))))
  have k8 := H.cell (w.heap.size) 8 (.slice aD c.nd cD) (List.Mem.tail _ (List.Mem.tail _ (List.Mem.tail _ (List.Mem.tail _ (List.Mem.tail _ (List.Mem.tail _ (List.Mem.tail _ (List.Mem.tail _ (List.Mem.head _)))))))))
  go_wp2_with fail
  (with_reducible refine (rprev14 c aR cR aD cD n v e _ HS.out HM.out (H.cal ((List.Mem.tail _ (List.Mem.tail _ (List.Mem.tail _ (List.Mem.tail _ (List.Mem.tail _ (List.Mem.tail _ (List.Mem.tail _ (List.Mem.tail _ (List.Mem.tail _ (List.Mem.tail _ (List.Mem.tail _ (List.Mem.tail _ (List.Mem.tail _ (List.Mem.tail _ (List.Mem.tail _ (List.Mem.tail _ (List.Mem.tail _ (List.Mem.tail _ (List.Mem.head _))))))))))))))))))))) C.out).mono ?_)
  clear k0 k1 k2 k3 k4 k5 k6 k7 k8
  rintro e w1 ⟨rfl, hb⟩
  replace H := H.below hb
  clear hb
  have k0 := H.cell (w.heap.size) 0 (.bool (c.o 0)) (List.Mem.head _)
  have k1 := H.cell (w.heap.size) 1 (.bool (c.o 1)) (List.Mem.tail _ (List.Mem.head _))
  have k2 := H.cell (w.heap.size) 2 (.bool (c.o 2)) (List.Mem.tail _ (List.Mem.tail _ (List.Mem.head _)))
  have k3 := H.cell (w.heap.size) 3 (.bool (c.o 3)) (List.Mem.tail _ (List.Mem.tail _ (List.Mem.tail _ (List.Mem.head _))))
  have k4 := H.cell (w.heap.size) 4 (.bool (c.o 4)) (List.Mem.tail _ (List.Mem.tail _ (List.Mem.tail _ (List.Mem.tail _ (List.Mem.head _)))))
  have k5 := H.cell (w.heap.size) 5 (.bool (c.o 5)) (List.Mem.tail _ (List.Mem.tail _ (List.Mem.tail _ (List.Mem.tail _ (List.Mem.tail _ (List.Mem.head _))))))
  have k6 := H.cell (w.heap.size) 6 (.bool (c.o 6)) (List.Mem.tail _ (List.Mem.tail _ (List.Mem.tail _ (List.Mem.tail _ (List.Mem.tail _ (List.Mem.tail _ (List.Mem.head _)))))))
  have k7 := H.cell (w.heap.size) 7 (.slice aR c.nr cR) (List.Mem.tail _ (List.Mem.tail _ (List.Mem.tail _ (List.Mem.tail _ (List.Mem.tail _ (List.Mem.tail _ (List.Mem.tail _ (List.Mem.head _))))))))
  have k8 := H.cell (w.heap.size) 8 (.slice aD c.nd cD) (List.Mem.tail _ (List.Mem.tail _ (List.Mem.tail _ (List.Mem.tail _ (List.Mem.tail _ (List.Mem.tail _ (List.Mem.tail _ (List.Mem.tail _ (List.Mem.head _)))))))))
  go_wp2
  go_ret2
  exact ⟨rfl, H.old⟩

set_option maxHeartbeats 4000000 in
theorem rto4t (c : Ca) (aR : Option Addr) (cR : Nat) (aD : Option Addr) (cD : Nat) (n v : Int)  (w : World) (hS : c.Small) (hM : ∀ j, j < c.nr → (c.R j).May) (hC : CalAt w c aR cR aD cD) (h : StepIs c (-1) n v 0) (hs : sameM n v) : Calls Tryd.prog 13 #[.agg #[.bool (c.o 0), .bool (c.o 1), .bool (c.o 2), .bool (c.o 3), .bool (c.o 4), .bool (c.o 5), .bool (c.o 6), .slice aR c.nr cR, .slice aD c.nd cD], .int .i64 n, .int .i64 4] w fun e' w' => e' = .returned (.tuple #[.int .i64 v, .int .i64 0]) ∧ Below w.heap.size w w' := by
  have H := (Held.start w).add (f := calF c aR cR aD cD) hC
  have HS := Lib.hid hS
  have HM := Lib.hid hM
  clear hS hM hC
  have C := Lib.hid h
  have D := Lib.hid (fun u => rmonth14 n v true u (h.good rfl).1 (h.good rfl).2.1.1 ⟨fun _ => hs, fun _ => rfl⟩)
  clear h hs
  go_enter Tryd.func13, Tryd.ntmps13
  replace H := H.box_9 (w.heap.size) (.bool (c.o 0)) (.bool (c.o 1)) (.bool (c.o 2)) (.bool (c.o 3)) (.bool (c.o 4)) (.bool (c.o 5)) (.bool (c.o 6)) (.slice aR c.nr cR) (.slice aD c.nd cD) 26 rfl
  have k0 := H.cell (w.heap.size) 0 (.bool (c.o 0)) (List.Mem.head _)
  have k1 := H.cell (w.heap.size) 1 (.bool (c.o 1)) (List.Mem.tail _ (List.Mem.head _))
  have k2 := H.cell (w.heap.size) 2 (.bool (c.o 2)) (List.Mem.tail _ (List.Mem.tail _ (List.Mem.head _)))
  have k3 := H.cell (w.heap.size) 3 (.bool (c.o 3)) (List.Mem.tail _ (List.Mem.tail _ (List.Mem.tail _ (List.Mem.head _))))
  have k4 := H.cell (w.heap.size) 4 (.bool (c.o 4)) (List.Mem.tail _ (List.Mem.tail _ (List.Mem.tail _ (List.Mem.tail _ (List.Mem.head _)))))
  have k5 := H.cell (w.heap.size) 5 (.bool (c.o 5)) (List.Mem.tail _ (List.Mem.tail _ (List.Mem.tail _ (List.Mem.tail _ (List.Mem.tail _ (List.Mem.head _))))))
  have k6 := H.cell (w.heap.size) 6 (.bool (c.o 6)) (List.Mem.tail _ (List.Mem.tail _ (List.Mem.tail _ (List.Mem.tail _ (List.Mem.tail _ (List.Mem.tail _ (List.Mem.head _)))))))
  have k7 := H.cell (w.heap.size) 7 (.slice aR c.nr cR) (List.Mem.tail _ (List.Mem.tail _ (List.Mem.tail _ (List.Mem.tail _ (List.Mem.tail _ (List.Mem.tail _ (List.Mem.tail _ (List.Mem.head _))))))))
  have k8 := H.cell (w.heap.size) 8 (.slice aD c.nd cD) (List.Mem.tail _ (List.Mem.tail _ (List.Mem.tail _ (List.Mem.tail _ (List.Mem.tail _ (List.Mem.tail _ (List.Mem.tail _ (List.Mem.tail _ (List.Mem.head _)))))))))
  go_wp2_with fail
  (with_reducible refine (rprev14 c aR cR aD cD n v 0 _ HS.out HM.out (H.cal ((List.Mem.tail _ (List.Mem.tail _ (List.Mem.tail _ (List.Mem.tail _ (List.Mem.tail _ (List.Mem.tail _ (List.Mem.tail _ (List.Mem.tail _ (List.Mem.tail _ (List.Mem.tail _ (List.Mem.tail _ (List.Mem.tail _ (List.Mem.tail _ (List.Mem.tail _ (List.Mem.tail _ (List.Mem.tail _ (List.Mem.tail _ (List.Mem.tail _ (List.Mem.head _))))))))))))))))))))) C.out).mono ?_)
  clear k0 k1 k2 k3 k4 k5 k6 k7 k8
  rintro e w1 ⟨rfl, hb⟩
  replace H := H.below hb
  clear hb
  have k0 := H.cell (w.heap.size) 0 (.bool (c.o 0)) (List.Mem.head _)
  have k1 := H.cell (w.heap.size) 1 (.bool (c.o 1)) (List.Mem.tail _ (List.Mem.head _))
  have k2 := H.cell (w.heap.size) 2 (.bool (c.o 2)) (List.Mem.tail _ (List.Mem.tail _ (List.Mem.head _)))
  have k3 := H.cell (w.heap.size) 3 (.bool (c.o 3)) (List.Mem.tail _ (List.Mem.tail _ (List.Mem.tail _ (List.Mem.head _))))
  have k4 := H.cell (w.heap.size) 4 (.bool (c.o 4)) (List.Mem.tail _ (List.Mem.tail _ (List.Mem.tail _ (List.Mem.tail _ (List.Mem.head _)))))
  have k5 := H.cell (w.heap.size) 5 (.bool (c.o 5)) (List.Mem.tail _ (List.Mem.tail _ (List.Mem.tail _ (List.Mem.tail _ (List.Mem.tail _ (List.Mem.head _))))))
  have k6 := H.cell (w.heap.size) 6 (.bool (c.o 6)) (List.Mem.tail _ (List.Mem.tail _ (List.Mem.tail _ (List.Mem.tail _ (List.Mem.tail _ (List.Mem.tail _ (List.Mem.head _)))))))
  have k7 := H.cell (w.heap.size) 7 (.slice aR c.nr cR) (List.Mem.tail _ (List.Mem.tail _ (List.Mem.tail _ (List.Mem.tail _ (List.Mem.tail _ (List.Mem.tail _ (List.Mem.tail _ (List.Mem.head _))))))))
  have k8 := H.cell (w.heap.size) 8 (.slice aD c.nd cD) (List.Mem.tail _ (List.Mem.tail _ (List.Mem.tail _ (List.Mem.tail _ (List.Mem.tail _ (List.Mem.tail _ (List.Mem.tail _ (List.Mem.tail _ (List.Mem.head _)))))))))
  go_wp2_with fail
  (with_reducible refine (D.out _).mono ?_)
  clear k0 k1 k2 k3 k4 k5 k6 k7 k8
  rintro e w1 ⟨rfl, hb⟩
  replace H := H.below hb
  clear hb
  have k0 := H.cell (w.heap.size) 0 (.bool (c.o 0)) (List.Mem.head _)
  have k1 := H.cell (w.heap.size) 1 (.bool (c.o 1)) (List.Mem.tail _ (List.Mem.head _))
  have k2 := H.cell (w.heap.size) 2 (.bool (c.o 2)) (List.Mem.tail _ (List.Mem.tail _ (List.Mem.head _)))
  have k3 := H.cell (w.heap.size) 3 (.bool (c.o 3)) (List.Mem.tail _ (List.Mem.tail _ (List.Mem.tail _ (List.Mem.head _))))
  have k4 := H.cell (w.heap.size) 4 (.bool (c.o 4)) (List.Mem.tail _ (List.Mem.tail _ (List.Mem.tail _ (List.Mem.tail _ (List.Mem.head _)))))
  have k5 := H.cell (w.heap.size) 5 (.bool (c.o 5)) (List.Mem.tail _ (List.Mem.tail _ (List.Mem.tail _ (List.Mem.tail _ (List.Mem.tail _ (List.Mem.head _))))))
  have k6 := H.cell (w.heap.size) 6 (.bool (c.o 6)) (List.Mem.tail _ (List.Mem.tail _ (List.Mem.tail _ (List.Mem.tail _ (List.Mem.tail _ (List.Mem.tail _ (List.Mem.head _)))))))
  have k7 := H.cell (w.heap.size) 7 (.slice aR c.nr cR) (List.Mem.tail _ (List.Mem.tail _ (List.Mem.tail _ (List.Mem.tail _ (List.Mem.tail _ (List.Mem.tail _ (List.Mem.tail _ (List.Mem.head _))))))))
  have k8 := H.cell (w.heap.size) 8 (.slice aD c.nd cD) (List.Mem.tail _ (List.Mem.tail _ (List.Mem.tail _ (List.Mem.tail _ (List.Mem.tail _ (List.Mem.tail _ (List.Mem.tail _ (List.Mem.tail _ (List.Mem.head _)))))))))
  go_wp2
  go_ret2
  exact ⟨rfl, H.old⟩

set_option maxHeartbeats 4000000 in
theorem rto4f (c : Ca) (aR : Option Addr) (cR : Nat) (aD : Option Addr) (cD : Nat) (n v e : Int) (a : Int) (w : World) (hS : c.Small) (hM : ∀ j, j < c.nr → (c.R j).May) (hC : CalAt w c aR cR aD cD) (h : StepIs c (-1) n a 0) (hs : ¬ sameM n a) (g : StepIs c (1) n v e) : Calls Tryd.prog 13 #[.agg #[.bool (c.o 0), .bool (c.o 1), .bool (c.o 2), .bool (c.o 3), .bool (c.o 4), .bool (c.o 5), .bool (c.o 6), .slice aR c.nr cR, .slice aD c.nd cD], .int .i64 n, .int .i64 4] w fun e' w' => e' = .returned (.tuple #[.int .i64 v, .int .i64 e]) ∧ Below w.heap.size w w' := by
  have H := (Held.start w).add (f := calF c aR cR aD cD) hC
  have HS := Lib.hid hS
  have HM := Lib.hid hM
  clear hS hM hC
  have C := Lib.hid h
  have C2 := Lib.hid g
  have D := Lib.hid (fun u => rmonth14 n a false u (h.good rfl).1 (h.good rfl).2.1.1 ⟨fun g => absurd g (by decide), fun g => absurd g hs⟩)
  clear h hs g
  go_enter Tryd.func13, Tryd.ntmps13
  replace H := H.box_9 (w.heap.size) (.bool (c.o 0)) (.bool (c.o 1)) (.bool (c.o 2)) (.bool (c.o 3)) (.bool (c.o 4)) (.bool (c.o 5)) (.bool (c.o 6)) (.slice aR c.nr cR) (.slice aD c.nd cD) 26 rfl
  have k0 := H.cell (w.heap.size) 0 (.bool (c.o 0)) (List.Mem.head _)
  have k1 := H.cell (w.heap.size) 1 (.bool (c.o 1)) (List.Mem.tail _ (List.Mem.head _))
  have k2 := H.cell (w.heap.size) 2 (.bool (c.o 2)) (List.Mem.tail _ (List.Mem.tail _ (List.Mem.head _)))
  have k3 := H.cell (w.heap.size) 3 (.bool (c.o 3)) (List.Mem.tail _ (List.Mem.tail _ (List.Mem.tail _ (List.Mem.head _))))
  have k4 := H.cell (w.heap.size) 4 (.bool (c.o 4)) (List.Mem.tail _ (List.Mem.tail _ (List.Mem.tail _ (List.Mem.tail _ (List.Mem.head _)))))
  have k5 := H.cell (w.heap.size) 5 (.bool (c.o 5)) (List.Mem.tail _ (List.Mem.tail _ (List.Mem.tail _ (List.Mem.tail _ (List.Mem.tail _ (List.Mem.head _))))))
  have k6 := H.cell (w.heap.size) 6 (.bool (c.o 6)) (List.Mem.tail _ (List.Mem.tail _ (List.Mem.tail _ (List.Mem.tail _ (List.Mem.tail _ (List.Mem.tail _ (List.Mem.head _)))))))
  have k7 := H.cell (w.heap.size) 7 (.slice aR c.nr cR) (List.Mem.tail _ (List.Mem.tail _ (List.Mem.tail _ (List.Mem.tail _ (List.Mem.tail _ (List.Mem.tail _ (List.Mem.tail _ (List.Mem.head _))))))))
  have k8 := H.cell (w.heap.size) 8 (.slice aD c.nd cD) (List.Mem.tail _ (List.Mem.tail _ (List.Mem.tail _ (List.Mem.tail _ (List.Mem.tail _ (List.Mem.tail _ (List.Mem.tail _ (List.Mem.tail _ (List.Mem.head _)))))))))
  go_wp2_with fail
  (with_reducible refine (rprev14 c aR cR aD cD n a 0 _ HS.out HM.out (H.cal ((List.Mem.tail _ (List.Mem.tail _ (List.Mem.tail _ (List.Mem.tail _ (List.Mem.tail _ (List.Mem.tail _ (List.Mem.tail _ (List.Mem.tail _ (List.Mem.tail _ (List.Mem.tail _ (List.Mem.tail _ (List.Mem.tail _ (List.Mem.tail _ (List.Mem.tail _ (List.Mem.tail _ (List.Mem.tail _ (List.Mem.tail _ (List.Mem.tail _ (List.Mem.head _))))))))))))))))))))) C.out).mono ?_)
  clear k0 k1 k2 k3 k4 k5 k6 k7 k8
  rintro e w1 ⟨rfl, hb⟩
  replace H := H.below hb
  clear hb
  have k0 := H.cell (w.heap.size) 0 (.bool (c.o 0)) (List.Mem.head _)
  have k1 := H.cell (w.heap.size) 1 (.bool (c.o 1)) (List.Mem.tail _ (List.Mem.head _))
  have k2 := H.cell (w.heap.size) 2 (.bool (c.o 2)) (List.Mem.tail _ (List.Mem.tail _ (List.Mem.head _)))
  have k3 := H.cell (w.heap.size) 3 (.bool (c.o 3)) (List.Mem.tail _ (List.Mem.tail _ (List.Mem.tail _ (List.Mem.head _))))
  have k4 := H.cell (w.heap.size) 4 (.bool (c.o 4)) (List.Mem.tail _ (List.Mem.tail _ (List.Mem.tail _ (List.Mem.tail _ (List.Mem.head _)))))
  have k5 := H.cell (w.heap.size) 5 (.bool (c.o 5)) (List.Mem.tail _ (List.Mem.tail _ (List.Mem.tail _ (List.Mem.tail _ (List.Mem.tail _ (List.Mem.head _))))))
  have k6 := H.cell (w.heap.size) 6 (.bool (c.o 6)) (List.Mem.tail _ (List.Mem.tail _ (List.Mem.tail _ (List.Mem.tail _ (List.Mem.tail _ (List.Mem.tail _ (List.Mem.head _)))))))
  have k7 := H.cell (w.heap.size) 7 (.slice aR c.nr cR) (List.Mem.tail _ (List.Mem.tail _ (List.Mem.tail _ (List.Mem.tail _ (List.Mem.tail _ (List.Mem.tail _ (List.Mem.tail _ (List.Mem.head _))))))))
  have k8 := H.cell (w.heap.size) 8 (.slice aD c.nd cD) (List.Mem.tail _ (List.Mem.tail _ (List.Mem.tail _ (List.Mem.tail _ (List.Mem.tail _ (List.Mem.tail _ (List.Mem.tail _ (List.Mem.tail _ (List.Mem.head _)))))))))
  go_wp2_with fail
  (with_reducible refine (D.out _).mono ?_)
  clear k0 k1 k2 k3 k4 k5 k6 k7 k8
  rintro e w1 ⟨rfl, hb⟩
  replace H := H.below hb
  clear hb
  have k0 := H.cell (w.heap.size) 0 (.bool (c.o 0)) (List.Mem.head _)
  have k1 := H.cell (w.heap.size) 1 (.bool (c.o 1)) (List.Mem.tail _ (List.Mem.head _))
  have k2 := H.cell (w.heap.size) 2 (.bool (c.o 2)) (List.Mem.tail _ (List.Mem.tail _ (List.Mem.head _)))
  have k3 := H.cell (w.heap.size) 3 (.bool (c.o 3)) (List.Mem.tail _ (List.Mem.tail _ (List.Mem.tail _ (List.Mem.head _))))
  have k4 := H.cell (w.heap.size) 4 (.bool (c.o 4)) (List.Mem.tail _ (List.Mem.tail _ (List.Mem.tail _ (List.Mem.tail _ (List.Mem.head _)))))
  have k5 := H.cell (w.heap.size) 5 (.bool (c.o 5)) (List.Mem.tail _ (List.Mem.tail _ (List.Mem.tail _ (List.Mem.tail _ (List.Mem.tail _ (List.Mem.head _))))))
  have k6 := H.cell (w.heap.size) 6 (.bool (c.o 6)) (List.Mem.tail _ (List.Mem.tail _ (List.Mem.tail _ (List.Mem.tail _ (List.Mem.tail _ (List.Mem.tail _ (List.Mem.head _)))))))
  have k7 := H.cell (w.heap.size) 7 (.slice aR c.nr cR) (List.Mem.tail _ (List.Mem.tail _ (List.Mem.tail _ (List.Mem.tail _ (List.Mem.tail _ (List.Mem.tail _ (List.Mem.tail _ (List.Mem.head _))))))))
  have k8 := H.cell (w.heap.size) 8 (.slice aD c.nd cD) (List.Mem.tail _ (List.Mem.tail _ (List.Mem.tail _ (List.Mem.tail _ (List.Mem.tail _ (List.Mem.tail _ (List.Mem.tail _ (List.Mem.tail _ (List.Mem.head _)))))))))
  go_wp2_with fail
  (with_reducible refine (rnext14 c aR cR aD cD n v e _ HS.out HM.out (H.cal ((List.Mem.tail _ (List.Mem.tail _ (List.Mem.tail _ (List.Mem.tail _ (List.Mem.tail _ (List.Mem.tail _ (List.Mem.tail _ (List.Mem.tail _ (List.Mem.tail _ (List.Mem.tail _ (List.Mem.tail _ (List.Mem.tail _ (List.Mem.tail _ (List.Mem.tail _ (List.Mem.tail _ (List.Mem.tail _ (List.Mem.tail _ (List.Mem.tail _ (List.Mem.head _))))))))))))))))))))) C2.out).mono ?_)
  clear k0 k1 k2 k3 k4 k5 k6 k7 k8
  rintro e w1 ⟨rfl, hb⟩
  replace H := H.below hb
  clear hb
  go_wp2
  go_ret2
  exact ⟨rfl, H.old⟩

theorem rto_out (c : Ca) (aR : Option Addr) (cR : Nat) (aD : Option Addr) (cD : Nat) (n k : Int) (w : World) (hk : k < 0 ∨ 4 < k) : Calls Tryd.prog 13 #[.agg #[.bool (c.o 0), .bool (c.o 1), .bool (c.o 2), .bool (c.o 3), .bool (c.o 4), .bool (c.o 5), .bool (c.o 6), .slice aR c.nr cR, .slice aD c.nd cD], .int .i64 n, .int .i64 k] w fun e' w' => e' = .returned (.tuple #[.int .i64 0, .int .i64 1]) ∧ Below w.heap.size w w' := by
  have H := Held.start w
  by_cases h0 : k < 0
  · have t0 : decide (k < 0) = true := decide_eq_true h0
    clear h0 hk
    go_enter Tryd.func13, Tryd.ntmps13
    go_wp2
    go_ret2
    exact ⟨rfl, (H.alloc _).old⟩
  · have t0 : decide (k < 0) = false := decide_eq_false h0
    have t1 : decide (k > 4) = true := decide_eq_true (by omega)
    clear h0 hk
    go_enter Tryd.func13, Tryd.ntmps13
    go_wp2
    go_ret2
    exact ⟨rfl, (H.alloc _).old⟩
theorem rto14 (c : Ca) (aR : Option Addr) (cR : Nat) (aD : Option Addr) (cD : Nat) (n k v e : Int) (w : World) (hS : c.Small) (hM : ∀ j, j < c.nr → (c.R j).May) (hC : CalAt w c aR cR aD cD) (h : ToIs c n k v e) : Calls Tryd.prog 13 #[.agg #[.bool (c.o 0), .bool (c.o 1), .bool (c.o 2), .bool (c.o 3), .bool (c.o 4), .bool (c.o 5), .bool (c.o 6), .slice aR c.nr cR, .slice aD c.nd cD], .int .i64 n, .int .i64 k] w fun e' w' => e' = .returned (.tuple #[.int .i64 v, .int .i64 e]) ∧ Below w.heap.size w w' := by
  rcases h with ⟨rfl, ⟨h, rfl, rfl⟩ | ⟨h, rfl, rfl⟩⟩ | ⟨rfl, h⟩ | ⟨rfl, a, f, h, ⟨g, rfl, rfl⟩ | ⟨⟨rfl, g⟩, g2⟩⟩ | ⟨rfl, h⟩ | ⟨rfl, a, f, h, ⟨g, rfl, rfl⟩ | ⟨⟨rfl, g⟩, g2⟩⟩ | ⟨h, rfl, rfl⟩
  · exact rto0d c aR cR aD cD _ w hS hM hC h
  · exact rto0n c aR cR aD cD n w hS hM hC h
  · by_cases he : e = 0
    · subst he
      by_cases hs : sameM n v
      · exact rto1t c aR cR aD cD n v w hS hM hC h hs
      · exact rto1f c aR cR aD cD n v w hS hM hC h hs
    · exact rto1bad c aR cR aD cD n v e w hS hM hC h he
  · by_cases he : e = 0
    · subst he
      exact rto2t c aR cR aD cD n v w hS hM hC h (g.resolve_left (fun z => z rfl))
    · exact rto2bad c aR cR aD cD n v e w hS hM hC h he
  · exact rto2f c aR cR aD cD n v e a w hS hM hC h g g2
  · by_cases he : e = 0
    · subst he
      by_cases hs : sameM n v
      · exact rto3t c aR cR aD cD n v w hS hM hC h hs
      · exact rto3f c aR cR aD cD n v w hS hM hC h hs
    · exact rto3bad c aR cR aD cD n v e w hS hM hC h he
  · by_cases he : e = 0
    · subst he
      exact rto4t c aR cR aD cD n v w hS hM hC h (g.resolve_left (fun z => z rfl))
    · exact rto4bad c aR cR aD cD n v e w hS hM hC h he
  · exact rto4f c aR cR aD cD n v e a w hS hM hC h g g2
  · exact rto_out c aR cR aD cD n k w h

theorem rname14_0 (w : World) : Calls Tryd.prog 21 #[.int .i64 0] w fun e w' => e = .returned (.string (rn 0)) ∧ Below w.heap.size w w' := by
  have H := Held.start w
  rw [rn_0]
  go_enter Tryd.func21, Tryd.ntmps21
  go_wp2
  go_ret
  exact ⟨rfl, (H.alloc _).old⟩

theorem rname14_1 (w : World) : Calls Tryd.prog 21 #[.int .i64 1] w fun e w' => e = .returned (.string (rn 1)) ∧ Below w.heap.size w w' := by
  have H := Held.start w
  rw [rn_1]
  go_enter Tryd.func21, Tryd.ntmps21
  go_wp2
  go_ret
  exact ⟨rfl, (H.alloc _).old⟩

theorem rname14_2 (w : World) : Calls Tryd.prog 21 #[.int .i64 2] w fun e w' => e = .returned (.string (rn 2)) ∧ Below w.heap.size w w' := by
  have H := Held.start w
  rw [rn_2]
  go_enter Tryd.func21, Tryd.ntmps21
  go_wp2
  go_ret
  exact ⟨rfl, (H.alloc _).old⟩

theorem rname14_3 (w : World) : Calls Tryd.prog 21 #[.int .i64 3] w fun e w' => e = .returned (.string (rn 3)) ∧ Below w.heap.size w w' := by
  have H := Held.start w
  rw [rn_3]
  go_enter Tryd.func21, Tryd.ntmps21
  go_wp2
  go_ret
  exact ⟨rfl, (H.alloc _).old⟩

theorem rname14_4 (w : World) : Calls Tryd.prog 21 #[.int .i64 4] w fun e w' => e = .returned (.string (rn 4)) ∧ Below w.heap.size w w' := by
  have H := Held.start w
  rw [rn_4]
  go_enter Tryd.func21, Tryd.ntmps21
  go_wp2
  go_ret
  exact ⟨rfl, (H.alloc _).old⟩

theorem rname14_out (k : Int) (w : World) (h : k < 0 ∨ 4 < k) : Calls Tryd.prog 21 #[.int .i64 k] w fun e w' => e = .returned (.string (rn k)) ∧ Below w.heap.size w w' := by
  have H := Held.start w
  rw [rn_out k h]
  by_cases h0 : k ≥ 0
  · have t0 : decide (k ≥ 0) = true := decide_eq_true h0
    have t1 : decide (k < 5) = false := decide_eq_false (by omega)
    go_enter Tryd.func21, Tryd.ntmps21
    go_wp2
    go_ret
    exact ⟨rfl, (H.alloc _).old⟩
  · have t0 : decide (k ≥ 0) = false := decide_eq_false h0
    go_enter Tryd.func21, Tryd.ntmps21
    go_wp2
    go_ret
    exact ⟨rfl, (H.alloc _).old⟩
theorem rname14 (k : Int) (s : ByteArray) (w : World) (hs : rn k = s) : Calls Tryd.prog 21 #[.int .i64 k] w fun e w' => e = .returned (.string s) ∧ Below w.heap.size w w' := by
  subst hs
  by_cases h : k < 0 ∨ 4 < k
  · exact rname14_out k w h
  · rcases of5 k (by omega) with rfl | rfl | rfl | rfl | rfl
    · exact rname14_0 w
    · exact rname14_1 w
    · exact rname14_2 w
    · exact rname14_3 w
    · exact rname14_4 w

theorem rkind14_0 (s : ByteArray) (w : World) (d0 : ((rn 0).toList == s.toList) = true) : Calls Tryd.prog 19 #[.string s] w fun e w' => e = .returned (.tuple #[.int .i64 0, .int .i64 0]) ∧ Below w.heap.size w w' := by
  have H := Held.start w
  go_enter Tryd.func19, Tryd.ntmps19
  go_wp2_with fail
  refine wp_loop_rounds 1 ?_
  rw [rounds_succ]
  go_wp2_with fail
  (with_reducible refine (rname14 0 _ _ rfl).mono ?_)
  rintro e v0 ⟨rfl, hb⟩
  replace H := H.below hb
  clear hb
  go_wp2_with fail
  go_ret2
  exact ⟨rfl, H.old⟩

theorem rkind14_1 (s : ByteArray) (w : World) (d0 : ((rn 0).toList == s.toList) = false) (d1 : ((rn 1).toList == s.toList) = true) : Calls Tryd.prog 19 #[.string s] w fun e w' => e = .returned (.tuple #[.int .i64 1, .int .i64 0]) ∧ Below w.heap.size w w' := by
  have H := Held.start w
  go_enter Tryd.func19, Tryd.ntmps19
  go_wp2_with fail
  refine wp_loop_rounds 2 ?_
  rw [rounds_succ]
  go_wp2_with fail
  (with_reducible refine (rname14 0 _ _ rfl).mono ?_)
  rintro e v0 ⟨rfl, hb⟩
  replace H := H.below hb
  clear hb
  go_wp2_with fail
  rw [rounds_succ]
  go_wp2_with fail
  (with_reducible refine (rname14 1 _ _ rfl).mono ?_)
  rintro e v1 ⟨rfl, hb⟩
  replace H := H.below hb
  clear hb
  go_wp2_with fail
  go_ret2
  exact ⟨rfl, H.old⟩

theorem rkind14_2 (s : ByteArray) (w : World) (d0 : ((rn 0).toList == s.toList) = false) (d1 : ((rn 1).toList == s.toList) = false) (d2 : ((rn 2).toList == s.toList) = true) : Calls Tryd.prog 19 #[.string s] w fun e w' => e = .returned (.tuple #[.int .i64 2, .int .i64 0]) ∧ Below w.heap.size w w' := by
  have H := Held.start w
  go_enter Tryd.func19, Tryd.ntmps19
  go_wp2_with fail
  refine wp_loop_rounds 3 ?_
  rw [rounds_succ]
  go_wp2_with fail
  (with_reducible refine (rname14 0 _ _ rfl).mono ?_)
  rintro e v0 ⟨rfl, hb⟩
  replace H := H.below hb
  clear hb
  go_wp2_with fail
  rw [rounds_succ]
  go_wp2_with fail
  (with_reducible refine (rname14 1 _ _ rfl).mono ?_)
  rintro e v1 ⟨rfl, hb⟩
  replace H := H.below hb
  clear hb
  go_wp2_with fail
  rw [rounds_succ]
  go_wp2_with fail
  (with_reducible refine (rname14 2 _ _ rfl).mono ?_)
  rintro e v2 ⟨rfl, hb⟩
  replace H := H.below hb
  clear hb
  go_wp2_with fail
  go_ret2
  exact ⟨rfl, H.old⟩

theorem rkind14_3 (s : ByteArray) (w : World) (d0 : ((rn 0).toList == s.toList) = false) (d1 : ((rn 1).toList == s.toList) = false) (d2 : ((rn 2).toList == s.toList) = false) (d3 : ((rn 3).toList == s.toList) = true) : Calls Tryd.prog 19 #[.string s] w fun e w' => e = .returned (.tuple #[.int .i64 3, .int .i64 0]) ∧ Below w.heap.size w w' := by
  have H := Held.start w
  go_enter Tryd.func19, Tryd.ntmps19
  go_wp2_with fail
  refine wp_loop_rounds 4 ?_
  rw [rounds_succ]
  go_wp2_with fail
  (with_reducible refine (rname14 0 _ _ rfl).mono ?_)
  rintro e v0 ⟨rfl, hb⟩
  replace H := H.below hb
  clear hb
  go_wp2_with fail
  rw [rounds_succ]
  go_wp2_with fail
  (with_reducible refine (rname14 1 _ _ rfl).mono ?_)
  rintro e v1 ⟨rfl, hb⟩
  replace H := H.below hb
  clear hb
  go_wp2_with fail
  rw [rounds_succ]
  go_wp2_with fail
  (with_reducible refine (rname14 2 _ _ rfl).mono ?_)
  rintro e v2 ⟨rfl, hb⟩
  replace H := H.below hb
  clear hb
  go_wp2_with fail
  rw [rounds_succ]
  go_wp2_with fail
  (with_reducible refine (rname14 3 _ _ rfl).mono ?_)
  rintro e v3 ⟨rfl, hb⟩
  replace H := H.below hb
  clear hb
  go_wp2_with fail
  go_ret2
  exact ⟨rfl, H.old⟩

theorem rkind14_4 (s : ByteArray) (w : World) (d0 : ((rn 0).toList == s.toList) = false) (d1 : ((rn 1).toList == s.toList) = false) (d2 : ((rn 2).toList == s.toList) = false) (d3 : ((rn 3).toList == s.toList) = false) (d4 : ((rn 4).toList == s.toList) = true) : Calls Tryd.prog 19 #[.string s] w fun e w' => e = .returned (.tuple #[.int .i64 4, .int .i64 0]) ∧ Below w.heap.size w w' := by
  have H := Held.start w
  go_enter Tryd.func19, Tryd.ntmps19
  go_wp2_with fail
  refine wp_loop_rounds 5 ?_
  rw [rounds_succ]
  go_wp2_with fail
  (with_reducible refine (rname14 0 _ _ rfl).mono ?_)
  rintro e v0 ⟨rfl, hb⟩
  replace H := H.below hb
  clear hb
  go_wp2_with fail
  rw [rounds_succ]
  go_wp2_with fail
  (with_reducible refine (rname14 1 _ _ rfl).mono ?_)
  rintro e v1 ⟨rfl, hb⟩
  replace H := H.below hb
  clear hb
  go_wp2_with fail
  rw [rounds_succ]
  go_wp2_with fail
  (with_reducible refine (rname14 2 _ _ rfl).mono ?_)
  rintro e v2 ⟨rfl, hb⟩
  replace H := H.below hb
  clear hb
  go_wp2_with fail
  rw [rounds_succ]
  go_wp2_with fail
  (with_reducible refine (rname14 3 _ _ rfl).mono ?_)
  rintro e v3 ⟨rfl, hb⟩
  replace H := H.below hb
  clear hb
  go_wp2_with fail
  rw [rounds_succ]
  go_wp2_with fail
  (with_reducible refine (rname14 4 _ _ rfl).mono ?_)
  rintro e v4 ⟨rfl, hb⟩
  replace H := H.below hb
  clear hb
  go_wp2_with fail
  go_ret2
  exact ⟨rfl, H.old⟩

theorem rkind14_5 (s : ByteArray) (w : World) (d0 : ((rn 0).toList == s.toList) = false) (d1 : ((rn 1).toList == s.toList) = false) (d2 : ((rn 2).toList == s.toList) = false) (d3 : ((rn 3).toList == s.toList) = false) (d4 : ((rn 4).toList == s.toList) = false) : Calls Tryd.prog 19 #[.string s] w fun e w' => e = .returned (.tuple #[.int .i64 0, .int .i64 10]) ∧ Below w.heap.size w w' := by
  have H := Held.start w
  go_enter Tryd.func19, Tryd.ntmps19
  go_wp2_with fail
  refine wp_loop_rounds 6 ?_
  rw [rounds_succ]
  go_wp2_with fail
  (with_reducible refine (rname14 0 _ _ rfl).mono ?_)
  rintro e v0 ⟨rfl, hb⟩
  replace H := H.below hb
  clear hb
  go_wp2_with fail
  rw [rounds_succ]
  go_wp2_with fail
  (with_reducible refine (rname14 1 _ _ rfl).mono ?_)
  rintro e v1 ⟨rfl, hb⟩
  replace H := H.below hb
  clear hb
  go_wp2_with fail
  rw [rounds_succ]
  go_wp2_with fail
  (with_reducible refine (rname14 2 _ _ rfl).mono ?_)
  rintro e v2 ⟨rfl, hb⟩
  replace H := H.below hb
  clear hb
  go_wp2_with fail
  rw [rounds_succ]
  go_wp2_with fail
  (with_reducible refine (rname14 3 _ _ rfl).mono ?_)
  rintro e v3 ⟨rfl, hb⟩
  replace H := H.below hb
  clear hb
  go_wp2_with fail
  rw [rounds_succ]
  go_wp2_with fail
  (with_reducible refine (rname14 4 _ _ rfl).mono ?_)
  rintro e v4 ⟨rfl, hb⟩
  replace H := H.below hb
  clear hb
  go_wp2_with fail
  rw [rounds_succ]
  go_wp2_with fail
  go_ret2
  exact ⟨rfl, H.old⟩

theorem rkind14 (s : ByteArray) (k e : Int) (w : World) (h : rk s = (k, e)) : Calls Tryd.prog 19 #[.string s] w fun e' w' => e' = .returned (.tuple #[.int .i64 k, .int .i64 e]) ∧ Below w.heap.size w w' := by
  have h1 : (rk s).1 = k := by rw [h]
  have h2 : (rk s).2 = e := by rw [h]
  subst h1 h2
  clear h
  by_cases h0 : ((rn 0).toList == s.toList) = true
  · have e : rk s = (0, 0) := by unfold rk; rw [if_pos h0]
    rw [e]
    exact rkind14_0 s w  h0
  by_cases h1 : ((rn 1).toList == s.toList) = true
  · have e : rk s = (1, 0) := by unfold rk; rw [if_neg h0, if_pos h1]
    rw [e]
    exact rkind14_1 s w (Bool.eq_false_iff.2 h0) h1
  by_cases h2 : ((rn 2).toList == s.toList) = true
  · have e : rk s = (2, 0) := by unfold rk; rw [if_neg h0, if_neg h1, if_pos h2]
    rw [e]
    exact rkind14_2 s w (Bool.eq_false_iff.2 h0) (Bool.eq_false_iff.2 h1) h2
  by_cases h3 : ((rn 3).toList == s.toList) = true
  · have e : rk s = (3, 0) := by unfold rk; rw [if_neg h0, if_neg h1, if_neg h2, if_pos h3]
    rw [e]
    exact rkind14_3 s w (Bool.eq_false_iff.2 h0) (Bool.eq_false_iff.2 h1) (Bool.eq_false_iff.2 h2) h3
  by_cases h4 : ((rn 4).toList == s.toList) = true
  · have e : rk s = (4, 0) := by unfold rk; rw [if_neg h0, if_neg h1, if_neg h2, if_neg h3, if_pos h4]
    rw [e]
    exact rkind14_4 s w (Bool.eq_false_iff.2 h0) (Bool.eq_false_iff.2 h1) (Bool.eq_false_iff.2 h2) (Bool.eq_false_iff.2 h3) h4
  have e : rk s = (0, 10) := by unfold rk; rw [if_neg h0, if_neg h1, if_neg h2, if_neg h3, if_neg h4]
  rw [e]
  exact rkind14_5 s w (Bool.eq_false_iff.2 h0) (Bool.eq_false_iff.2 h1) (Bool.eq_false_iff.2 h2) (Bool.eq_false_iff.2 h3) (Bool.eq_false_iff.2 h4)
end Go.Proofs.YtkbhicdcjfpbaaaDoor
