/- The reference of layer 13: which calendars may be. -/
import Derived.Test.YtkbhicdcjfpbaaaDoorCaRef
namespace Go.Proofs.YtkbhicdcjfpbaaaDoor
open Go.RowKit
set_option linter.unusedVariables false
set_option linter.unusedSimpArgs false


theorem may_first {c : Ca} {b : Bool} (h : b = true ↔ c.May) (hb : b = true) : c.May := h.1 hb
set_option maxHeartbeats 4000000 in
theorem rcmay_any (c : Ca) (aR : Option Addr) (cR : Nat) (aD : Option Addr) (cD : Nat) (b : Bool) (w : World) (hS : c.Small) (hC : CalAt w c aR cR aD cD) (h : b = true ↔ c.May) : Calls Tryd.prog 11 #[.agg #[.bool (c.o 0), .bool (c.o 1), .bool (c.o 2), .bool (c.o 3), .bool (c.o 4), .bool (c.o 5), .bool (c.o 6), .slice aR c.nr cR, .slice aD c.nd cD]] w fun e w' => e = .returned (.bool b) ∧ Below w.heap.size w w' := by
  have H := (Held.start w).add (f := calF c aR cR aD cD) hC
  have HB := Lib.hid h
  have s1 : c.nr ≤ 200 := hS.1
  have s2 : c.nd ≤ 2000 := hS.2
  clear h hC hS
  go_enter Tryd.func11, Tryd.ntmps11
  replace H := H.box_9 (w.heap.size) (.bool (c.o 0)) (.bool (c.o 1)) (.bool (c.o 2)) (.bool (c.o 3)) (.bool (c.o 4)) (.bool (c.o 5)) (.bool (c.o 6)) (.slice aR c.nr cR) (.slice aD c.nd cD) 26 rfl
  have k0 := H.cell (w.heap.size) 0 (.bool (c.o 0)) (List.Mem.head _)
  have k1 := H.cell (w.heap.size) 1 (.bool (c.o 1)) (List.Mem.tail _ (List.Mem.head _))
  have k2 := H.cell (w.heap.size) 2 (.bool (c.o 2)) (List.Mem.tail _ (List.Mem.tail _ (List.Mem.head _)))
  have k3 := H.cell (w.heap.size) 3 (.bool (c.o 3)) (List.Mem.tail _ (List.Mem.tail _ (List.Mem.tail _ (List.Mem.head _))))
  have k4 := H.cell (w.heap.size) 4 (.bool (c.o 4)) (List.Mem.tail _ (List.Mem.tail _ (List.Mem.tail _ (List.Mem.tail _ (List.Mem.head _)))))
  have k5 := H.cell (w.heap.size) 5 (.bool (c.o 5)) (List.Mem.tail _ (List.Mem.tail _ (List.Mem.tail _ (List.Mem.tail _ (List.Mem.tail _ (List.Mem.head _))))))
  have k6 := H.cell (w.heap.size) 6 (.bool (c.o 6)) (List.Mem.tail _ (List.Mem.tail _ (List.Mem.tail _ (List.Mem.tail _ (List.Mem.tail _ (List.Mem.tail _ (List.Mem.head _)))))))
  have k7 := H.cell (w.heap.size) 7 (.slice aR c.nr cR) (List.Mem.tail _ (List.Mem.tail _ (List.Mem.tail _ (List.Mem.tail _ (List.Mem.tail _ (List.Mem.tail _ (List.Mem.tail _ (List.Mem.head _))))))))
  have k8 := H.cell (w.heap.size) 8 (.slice aD c.nd cD) (List.Mem.tail _ (List.Mem.tail _ (List.Mem.tail _ (List.Mem.tail _ (List.Mem.tail _ (List.Mem.tail _ (List.Mem.tail _ (List.Mem.tail _ (List.Mem.head _)))))))))
  go_wp2_with fail
  go_loopw [3, 4] (fun u i W' => ∃ (j : Nat) (x : Bool), j ≤ 7 ∧ i = .int .i64 j ∧ u = .bool x ∧ (x = true ↔ ∃ l, l < j ∧ c.o l = false) ∧ Held w (.cell (w.heap.size) 0 (.bool (c.o 0)) :: .cell (w.heap.size) 1 (.bool (c.o 1)) :: .cell (w.heap.size) 2 (.bool (c.o 2)) :: .cell (w.heap.size) 3 (.bool (c.o 3)) :: .cell (w.heap.size) 4 (.bool (c.o 4)) :: .cell (w.heap.size) 5 (.bool (c.o 5)) :: .cell (w.heap.size) 6 (.bool (c.o 6)) :: .cell (w.heap.size) 7 (.slice aR c.nr cR) :: .cell (w.heap.size) 8 (.slice aD c.nd cD) :: .free (w.heap.size) 0 :: .free (w.heap.size) 1 :: .free (w.heap.size) 2 :: .free (w.heap.size) 3 :: .free (w.heap.size) 4 :: .free (w.heap.size) 5 :: .free (w.heap.size) 6 :: .free (w.heap.size) 7 :: .free (w.heap.size) 8 :: calF c aR cR aD cD :: []) W') (fun _ i _ => 7 - (intOf i).toNat)
  case atStart => exact ⟨0, false, by omega, rfl, rfl, ⟨fun g => absurd g (by decide), fun ⟨l, g, _⟩ => absurd g (by omega)⟩, H⟩
  case round =>
    clear H k0 k1 k2 k3 k4 k5 k6 k7 k8
    obtain ⟨j, x, j1, rfl, rfl, hx, H⟩ := hrel
    have HX := Lib.hid hx
    clear hx
    have k0 := H.cell (w.heap.size) 0 (.bool (c.o 0)) (List.Mem.head _)
    have k1 := H.cell (w.heap.size) 1 (.bool (c.o 1)) (List.Mem.tail _ (List.Mem.head _))
    have k2 := H.cell (w.heap.size) 2 (.bool (c.o 2)) (List.Mem.tail _ (List.Mem.tail _ (List.Mem.head _)))
    have k3 := H.cell (w.heap.size) 3 (.bool (c.o 3)) (List.Mem.tail _ (List.Mem.tail _ (List.Mem.tail _ (List.Mem.head _))))
    have k4 := H.cell (w.heap.size) 4 (.bool (c.o 4)) (List.Mem.tail _ (List.Mem.tail _ (List.Mem.tail _ (List.Mem.tail _ (List.Mem.head _)))))
    have k5 := H.cell (w.heap.size) 5 (.bool (c.o 5)) (List.Mem.tail _ (List.Mem.tail _ (List.Mem.tail _ (List.Mem.tail _ (List.Mem.tail _ (List.Mem.head _))))))
    have k6 := H.cell (w.heap.size) 6 (.bool (c.o 6)) (List.Mem.tail _ (List.Mem.tail _ (List.Mem.tail _ (List.Mem.tail _ (List.Mem.tail _ (List.Mem.tail _ (List.Mem.head _)))))))
    have k7 := H.cell (w.heap.size) 7 (.slice aR c.nr cR) (List.Mem.tail _ (List.Mem.tail _ (List.Mem.tail _ (List.Mem.tail _ (List.Mem.tail _ (List.Mem.tail _ (List.Mem.tail _ (List.Mem.head _))))))))
    have k8 := H.cell (w.heap.size) 8 (.slice aD c.nd cD) (List.Mem.tail _ (List.Mem.tail _ (List.Mem.tail _ (List.Mem.tail _ (List.Mem.tail _ (List.Mem.tail _ (List.Mem.tail _ (List.Mem.tail _ (List.Mem.head _)))))))))
    have lk := H.lt (w.heap.size) 0 (.bool (c.o 0)) ((List.Mem.head _))
    by_cases hj : j < 7
    · have kv := off_at hj k0 k1 k2 k3 k4 k5 k6
      obtain ⟨y, hy⟩ : ∃ y, c.o j = y := ⟨_, rfl⟩
      rw [hy] at kv
      have HY := Lib.hid hy
      clear hy
      have NX : Hid ((x || !y) = true ↔ ∃ l, l < j + 1 ∧ c.o l = false) := Lib.hid (by
        rw [Bool.or_eq_true, Bool.not_eq_true', HX.out]
        constructor
        · rintro (⟨l, g1, g2⟩ | g)
          · exact ⟨l, by omega, g2⟩
          · exact ⟨j, by omega, by rw [HY.out]; exact g⟩
        · rintro ⟨l, g1, g2⟩
          by_cases e : l = j
          · subst e; right; rw [← HY.out]; exact g2
          · left; exact ⟨l, by omega, g2⟩)
      cases x
      · go_wp2
        go_roundw
        case rel => exact ⟨j + 1, _, by omega, by go_num, rfl, NX.out, H⟩
        case measure => simp [intOf]; omega
      · go_wp2
        go_roundw
        case rel => exact ⟨j + 1, _, by omega, by go_num, rfl, NX.out, H⟩
        case measure => simp [intOf]; omega
    · obtain rfl : j = 7 := by omega
      cases x with
      | false =>
        have e : b = false := bool_not HB.out (fun g => absurd (HX.out.2 g.1) (by decide))
        subst e
        go_wp2
        go_ret
        exact ⟨rfl, H.old⟩
      | true =>
        by_cases hr : c.nr ≤ 100
        · by_cases hd : c.nd ≤ 1000
          · go_wp2_with fail
            clear k0 k1 k2 k3 k4 k5 k6 k7 k8 lk
            go_loopw [5] (fun i W' => ∃ j : Nat, j ≤ c.nr ∧ i = .int .i64 j ∧ (∀ l, l < j → (c.R l).May) ∧ Held w (.cell (w.heap.size) 0 (.bool (c.o 0)) :: .cell (w.heap.size) 1 (.bool (c.o 1)) :: .cell (w.heap.size) 2 (.bool (c.o 2)) :: .cell (w.heap.size) 3 (.bool (c.o 3)) :: .cell (w.heap.size) 4 (.bool (c.o 4)) :: .cell (w.heap.size) 5 (.bool (c.o 5)) :: .cell (w.heap.size) 6 (.bool (c.o 6)) :: .cell (w.heap.size) 7 (.slice aR c.nr cR) :: .cell (w.heap.size) 8 (.slice aD c.nd cD) :: .free (w.heap.size) 0 :: .free (w.heap.size) 1 :: .free (w.heap.size) 2 :: .free (w.heap.size) 3 :: .free (w.heap.size) 4 :: .free (w.heap.size) 5 :: .free (w.heap.size) 6 :: .free (w.heap.size) 7 :: .free (w.heap.size) 8 :: calF c aR cR aD cD :: []) W') (fun i _ => c.nr - (intOf i).toNat)
            case atStart => exact ⟨0, by omega, rfl, fun l g => by omega, H⟩
            case round =>
              clear H
              obtain ⟨j, j1, rfl, hR, H⟩ := hrel
              have HR := Lib.hid hR
              clear hR
              have k0 := H.cell (w.heap.size) 0 (.bool (c.o 0)) (List.Mem.head _)
              have k1 := H.cell (w.heap.size) 1 (.bool (c.o 1)) (List.Mem.tail _ (List.Mem.head _))
              have k2 := H.cell (w.heap.size) 2 (.bool (c.o 2)) (List.Mem.tail _ (List.Mem.tail _ (List.Mem.head _)))
              have k3 := H.cell (w.heap.size) 3 (.bool (c.o 3)) (List.Mem.tail _ (List.Mem.tail _ (List.Mem.tail _ (List.Mem.head _))))
              have k4 := H.cell (w.heap.size) 4 (.bool (c.o 4)) (List.Mem.tail _ (List.Mem.tail _ (List.Mem.tail _ (List.Mem.tail _ (List.Mem.head _)))))
              have k5 := H.cell (w.heap.size) 5 (.bool (c.o 5)) (List.Mem.tail _ (List.Mem.tail _ (List.Mem.tail _ (List.Mem.tail _ (List.Mem.tail _ (List.Mem.head _))))))
              have k6 := H.cell (w.heap.size) 6 (.bool (c.o 6)) (List.Mem.tail _ (List.Mem.tail _ (List.Mem.tail _ (List.Mem.tail _ (List.Mem.tail _ (List.Mem.tail _ (List.Mem.head _)))))))
              have k7 := H.cell (w.heap.size) 7 (.slice aR c.nr cR) (List.Mem.tail _ (List.Mem.tail _ (List.Mem.tail _ (List.Mem.tail _ (List.Mem.tail _ (List.Mem.tail _ (List.Mem.tail _ (List.Mem.head _))))))))
              have k8 := H.cell (w.heap.size) 8 (.slice aD c.nd cD) (List.Mem.tail _ (List.Mem.tail _ (List.Mem.tail _ (List.Mem.tail _ (List.Mem.tail _ (List.Mem.tail _ (List.Mem.tail _ (List.Mem.tail _ (List.Mem.head _)))))))))
              by_cases hj : j < c.nr
              · obtain ⟨bR, oR, rfl, hr⟩ := (H.cal ((List.Mem.tail _ (List.Mem.tail _ (List.Mem.tail _ (List.Mem.tail _ (List.Mem.tail _ (List.Mem.tail _ (List.Mem.tail _ (List.Mem.tail _ (List.Mem.tail _ (List.Mem.tail _ (List.Mem.tail _ (List.Mem.tail _ (List.Mem.tail _ (List.Mem.tail _ (List.Mem.tail _ (List.Mem.tail _ (List.Mem.tail _ (List.Mem.tail _ (List.Mem.head _))))))))))))))))))))).1.2 (by omega)
                obtain ⟨q0, q1, q2, q3, q4, q5, q6, q7⟩ := hr j hj
                clear hr
                obtain ⟨x, hx⟩ : ∃ x, Ru.mb (c.R j) = x := ⟨_, rfl⟩
                have Q := Lib.hid (fun v => rumay_any (c.R j).k (c.R j).m (c.R j).d (c.R j).q (c.R j).o (c.R j).s (c.R j).f (c.R j).t x v hx)
                have HM := Lib.hid hx
                clear hx
                go_wp2_with fail
                (with_reducible refine (Q.out _).mono ?_)
                clear q0 q1 q2 q3 q4 q5 q6 q7 k0 k1 k2 k3 k4 k5 k6 k7 k8 Q
                rintro e w3 ⟨rfl, hb⟩
                replace H := H.below hb
                clear hb
                have k0 := H.cell (w.heap.size) 0 (.bool (c.o 0)) (List.Mem.head _)
                have k1 := H.cell (w.heap.size) 1 (.bool (c.o 1)) (List.Mem.tail _ (List.Mem.head _))
                have k2 := H.cell (w.heap.size) 2 (.bool (c.o 2)) (List.Mem.tail _ (List.Mem.tail _ (List.Mem.head _)))
                have k3 := H.cell (w.heap.size) 3 (.bool (c.o 3)) (List.Mem.tail _ (List.Mem.tail _ (List.Mem.tail _ (List.Mem.head _))))
                have k4 := H.cell (w.heap.size) 4 (.bool (c.o 4)) (List.Mem.tail _ (List.Mem.tail _ (List.Mem.tail _ (List.Mem.tail _ (List.Mem.head _)))))
                have k5 := H.cell (w.heap.size) 5 (.bool (c.o 5)) (List.Mem.tail _ (List.Mem.tail _ (List.Mem.tail _ (List.Mem.tail _ (List.Mem.tail _ (List.Mem.head _))))))
                have k6 := H.cell (w.heap.size) 6 (.bool (c.o 6)) (List.Mem.tail _ (List.Mem.tail _ (List.Mem.tail _ (List.Mem.tail _ (List.Mem.tail _ (List.Mem.tail _ (List.Mem.head _)))))))
                have k7 := H.cell (w.heap.size) 7 (.slice (some ⟨bR, oR, none⟩) c.nr cR) (List.Mem.tail _ (List.Mem.tail _ (List.Mem.tail _ (List.Mem.tail _ (List.Mem.tail _ (List.Mem.tail _ (List.Mem.tail _ (List.Mem.head _))))))))
                have k8 := H.cell (w.heap.size) 8 (.slice aD c.nd cD) (List.Mem.tail _ (List.Mem.tail _ (List.Mem.tail _ (List.Mem.tail _ (List.Mem.tail _ (List.Mem.tail _ (List.Mem.tail _ (List.Mem.tail _ (List.Mem.head _)))))))))
                cases x with
                | false =>
                  have e : b = false := bool_not HB.out (fun g => by
                    have := ru_yes (g.2.2.2.1 j hj)
                    rw [HM.out] at this
                    cases this)
                  subst e
                  go_wp2
                  go_ret
                  exact ⟨rfl, H.old⟩
                | true =>
                  go_wp2
                  go_roundw
                  case rel => exact ⟨j + 1, by omega, by go_num, fun l g => by
                    by_cases e : l = j
                    · subst e; exact of_decide_eq_true HM.out
                    · exact HR.out l (by omega), H⟩
                  case measure => simp [intOf]; omega
              · obtain rfl : j = c.nr := by omega
                go_wp2_with fail
                clear k0 k1 k2 k3 k4 k5 k6 k7 k8
                go_loopw [7] (fun i W' => ∃ j : Nat, j ≤ c.nd ∧ i = .int .i64 j ∧ (∀ l, l < j → 1 ≤ c.X l ∧ c.X l ≤ 3652059) ∧ (∀ l, l + 1 < j → c.X l < c.X (l + 1)) ∧ Held w (.cell (w.heap.size) 0 (.bool (c.o 0)) :: .cell (w.heap.size) 1 (.bool (c.o 1)) :: .cell (w.heap.size) 2 (.bool (c.o 2)) :: .cell (w.heap.size) 3 (.bool (c.o 3)) :: .cell (w.heap.size) 4 (.bool (c.o 4)) :: .cell (w.heap.size) 5 (.bool (c.o 5)) :: .cell (w.heap.size) 6 (.bool (c.o 6)) :: .cell (w.heap.size) 7 (.slice aR c.nr cR) :: .cell (w.heap.size) 8 (.slice aD c.nd cD) :: .free (w.heap.size) 0 :: .free (w.heap.size) 1 :: .free (w.heap.size) 2 :: .free (w.heap.size) 3 :: .free (w.heap.size) 4 :: .free (w.heap.size) 5 :: .free (w.heap.size) 6 :: .free (w.heap.size) 7 :: .free (w.heap.size) 8 :: calF c aR cR aD cD :: []) W') (fun i _ => c.nd - (intOf i).toNat)
                case atStart => exact ⟨0, by omega, rfl, fun l g => by omega, fun l g => by omega, H⟩
                case round =>
                  clear H
                  obtain ⟨j, j1, rfl, hA, hB, H⟩ := hrel
                  have HA := Lib.hid hA
                  have HC := Lib.hid hB
                  clear hA hB
                  have k0 := H.cell (w.heap.size) 0 (.bool (c.o 0)) (List.Mem.head _)
                  have k1 := H.cell (w.heap.size) 1 (.bool (c.o 1)) (List.Mem.tail _ (List.Mem.head _))
                  have k2 := H.cell (w.heap.size) 2 (.bool (c.o 2)) (List.Mem.tail _ (List.Mem.tail _ (List.Mem.head _)))
                  have k3 := H.cell (w.heap.size) 3 (.bool (c.o 3)) (List.Mem.tail _ (List.Mem.tail _ (List.Mem.tail _ (List.Mem.head _))))
                  have k4 := H.cell (w.heap.size) 4 (.bool (c.o 4)) (List.Mem.tail _ (List.Mem.tail _ (List.Mem.tail _ (List.Mem.tail _ (List.Mem.head _)))))
                  have k5 := H.cell (w.heap.size) 5 (.bool (c.o 5)) (List.Mem.tail _ (List.Mem.tail _ (List.Mem.tail _ (List.Mem.tail _ (List.Mem.tail _ (List.Mem.head _))))))
                  have k6 := H.cell (w.heap.size) 6 (.bool (c.o 6)) (List.Mem.tail _ (List.Mem.tail _ (List.Mem.tail _ (List.Mem.tail _ (List.Mem.tail _ (List.Mem.tail _ (List.Mem.head _)))))))
                  have k7 := H.cell (w.heap.size) 7 (.slice aR c.nr cR) (List.Mem.tail _ (List.Mem.tail _ (List.Mem.tail _ (List.Mem.tail _ (List.Mem.tail _ (List.Mem.tail _ (List.Mem.tail _ (List.Mem.head _))))))))
                  have k8 := H.cell (w.heap.size) 8 (.slice aD c.nd cD) (List.Mem.tail _ (List.Mem.tail _ (List.Mem.tail _ (List.Mem.tail _ (List.Mem.tail _ (List.Mem.tail _ (List.Mem.tail _ (List.Mem.tail _ (List.Mem.head _)))))))))
                  by_cases hj : j < c.nd
                  · obtain ⟨bD, oD, rfl, hd⟩ := (H.cal ((List.Mem.tail _ (List.Mem.tail _ (List.Mem.tail _ (List.Mem.tail _ (List.Mem.tail _ (List.Mem.tail _ (List.Mem.tail _ (List.Mem.tail _ (List.Mem.tail _ (List.Mem.tail _ (List.Mem.tail _ (List.Mem.tail _ (List.Mem.tail _ (List.Mem.tail _ (List.Mem.tail _ (List.Mem.tail _ (List.Mem.tail _ (List.Mem.tail _ (List.Mem.head _))))))))))))))))))))).2.2 (by omega)
                    have kd := hd j hj
                    obtain ⟨x, hx⟩ : ∃ x, decide (1 ≤ c.X j ∧ c.X j ≤ 3652059) = x := ⟨_, rfl⟩
                    have Q := Lib.hid (fun v => rday13_is (c.X j) x v hx)
                    have HM := Lib.hid hx
                    clear hx
                    go_wp2_with fail
                    (with_reducible refine (Q.out _).mono ?_)
                    clear Q
                    rintro e w3 ⟨rfl, rfl⟩
                    cases x with
                    | false =>
                      have e : b = false := bool_not HB.out (fun g => of_decide_eq_false HM.out (g.2.2.2.2.1 j hj))
                      subst e
                      go_wp2_with fail
                      go_quiet (fail)
                      go_wp2
                      go_ret
                      exact ⟨rfl, H.old.trans ((drewN_below _).mono H.old.size)⟩
                    | true =>
                      rcases j with _ | i
                      ·
                        rw [Nat.add_zero] at kd
                        go_wp2_with fail
                        go_quiet (fail)
                        go_wp2
                        go_roundw
                        case rel => exact ⟨1, by omega, by go_num, fun l g => by
                          by_cases e : l = 0
                          · subst e; exact of_decide_eq_true HM.out
                          · exact HA.out l (by omega), fun l g => by omega, H.drewN _⟩
                        case measure => simp [intOf]; omega
                      ·
                        have ki := hd i (by omega)
                        by_cases hl : c.X (i + 1) ≤ c.X i
                        · have t1 : decide (c.X (i + 1) ≤ c.X i) = true := by simpa using hl
                          have e : b = false := bool_not HB.out (fun g => by have := g.2.2.2.2.2 i hj; omega)
                          subst e
                          go_wp2_with fail
                          go_quiet (fail)
                          go_wp2
                          go_ret
                          exact ⟨rfl, H.old.trans ((drewN_below _).mono H.old.size)⟩
                        · have t1 : decide (c.X (i + 1) ≤ c.X i) = false := by simpa using hl
                          go_wp2_with fail
                          go_quiet (fail)
                          go_wp2
                          go_roundw
                          case rel => exact ⟨i + 2, by omega, by go_num, fun l g => by
                            by_cases e : l = i + 1
                            · subst e; exact of_decide_eq_true HM.out
                            · exact HA.out l (by omega), fun l g => by
                            by_cases e : l = i
                            · subst e; omega
                            · exact HC.out l (by omega), H.drewN _⟩
                          case measure => simp [intOf]; omega
                  · obtain rfl : j = c.nd := by omega
                    have e : b = true := HB.out.2 ⟨by simpa using HX.out, by omega, by omega, HR.out, HA.out, HC.out⟩
                    subst e
                    go_wp2
                    go_ret
                    exact ⟨rfl, H.old⟩
          · have e : b = false := bool_not HB.out (fun g => hd g.2.2.1)
            subst e
            go_wp2
            all_goals first | (exfalso; omega) | skip
            all_goals (go_ret; exact ⟨rfl, H.old⟩)
        · have e : b = false := bool_not HB.out (fun g => hr g.2.1)
          subst e
          go_wp2
          all_goals first | (exfalso; omega) | skip
          all_goals (go_ret; exact ⟨rfl, H.old⟩)
end Go.Proofs.YtkbhicdcjfpbaaaDoor
