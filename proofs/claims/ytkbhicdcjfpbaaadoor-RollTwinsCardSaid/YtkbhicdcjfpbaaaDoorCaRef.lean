/- The reference of layer 13: which days are days of business. -/
import Derived.Test.YtkbhicdcjfpbaaaDoorCaMem
namespace Go.Proofs.YtkbhicdcjfpbaaaDoor
open Go.RowKit
set_option linter.unusedVariables false
set_option linter.unusedSimpArgs false


theorem few_any (c : Ca) (aR : Option Addr) (cR : Nat) (aD : Option Addr) (cD : Nat) (b : Bool) (w : World) (h : decide (c.nr ≤ 12 ∧ c.nd ≤ 60) = b) : Calls Tryd.prog 10 #[.agg #[.bool (c.o 0), .bool (c.o 1), .bool (c.o 2), .bool (c.o 3), .bool (c.o 4), .bool (c.o 5), .bool (c.o 6), .slice aR c.nr cR, .slice aD c.nd cD]] w fun e w' => e = .returned (.bool b) ∧ Below w.heap.size w w' := by
  have H := Held.start w
  have HB := Lib.hid h
  clear h
  go_enter Tryd.func10, Tryd.ntmps10
  replace H := H.box_9 (w.heap.size) (.bool (c.o 0)) (.bool (c.o 1)) (.bool (c.o 2)) (.bool (c.o 3)) (.bool (c.o 4)) (.bool (c.o 5)) (.bool (c.o 6)) (.slice aR c.nr cR) (.slice aD c.nd cD) 26 rfl
  go_wp2_with fail
  all_goals (go_ret; refine ⟨retB ?_, H.old⟩; rw [← HB.out, Bool.eq_iff_iff]; (try simp only [decide_eq_true_eq, Bool.false_eq_true, false_iff, true_iff]); omega)
set_option maxHeartbeats 4000000 in
theorem rcis_any (c : Ca) (aR : Option Addr) (cR : Nat) (aD : Option Addr) (cD : Nat) (n : Int) (b : Bool) (w : World) (hS : c.Small) (hM : ∀ j, j < c.nr → (c.R j).May) (hC : CalAt w c aR cR aD cD) (h : b = true ↔ c.Is n) : Calls Tryd.prog 23 #[.agg #[.bool (c.o 0), .bool (c.o 1), .bool (c.o 2), .bool (c.o 3), .bool (c.o 4), .bool (c.o 5), .bool (c.o 6), .slice aR c.nr cR, .slice aD c.nd cD], .int .i64 n] w fun e w' => e = .returned (.bool b) ∧ Below w.heap.size w w' := by
  have H := (Held.start w).add (f := calF c aR cR aD cD) hC
  have HB := Lib.hid h
  have MM := Lib.hid hM
  have s1 : c.nr ≤ 200 := hS.1
  have s2 : c.nd ≤ 2000 := hS.2
  clear h hC hM hS
  by_cases hn : 1 ≤ n ∧ n ≤ 3652059
  · have C1 := Lib.hid (fun v => rday13_is n true v (decide_eq_true hn))
    obtain ⟨v, hv, v7⟩ := wk_nat n
    have C2 := Lib.hid (fun u => rweek_is n v u hv)
    go_enter Tryd.func23, Tryd.ntmps23
    replace H := H.box_9 (w.heap.size) (.bool (c.o 0)) (.bool (c.o 1)) (.bool (c.o 2)) (.bool (c.o 3)) (.bool (c.o 4)) (.bool (c.o 5)) (.bool (c.o 6)) (.slice aR c.nr cR) (.slice aD c.nd cD) 26 rfl
    go_wp2_with fail
    (with_reducible refine (C1.out _).mono ?_)
    rintro e w1 ⟨rfl, rfl⟩
    go_wp2_with fail
    (with_reducible refine (C2.out _).mono ?_)
    rintro e w1 ⟨rfl, hb⟩
    replace H := H.below hb
    clear hb
    have k0 := H.cell (w.heap.size) 0 (.bool (c.o 0)) (List.Mem.head _)
    have k1 := H.cell (w.heap.size) 1 (.bool (c.o 1)) (List.Mem.tail _ (List.Mem.head _))
    have k2 := H.cell (w.heap.size) 2 (.bool (c.o 2)) (List.Mem.tail _ (List.Mem.tail _ (List.Mem.head _)))
    have k3 := H.cell (w.heap.size) 3 (.bool (c.o 3)) (List.Mem.tail _ (List.Mem.tail _ (List.Mem.tail _ (List.Mem.head _))))
    have k4 := H.cell (w.heap.size) 4 (.bool (c.o 4)) (List.Mem.tail _ (List.Mem.tail _ (List.Mem.tail _ (List.Mem.tail _ (List.Mem.head _)))))
    have k5 := H.cell (w.heap.size) 5 (.bool (c.o 5)) (List.Mem.tail _ (List.Mem.tail _ (List.Mem.tail _ (List.Mem.tail _ (List.Mem.tail _ (List.Mem.head _))))))
    have k6 := H.cell (w.heap.size) 6 (.bool (c.o 6)) (List.Mem.tail _ (List.Mem.tail _ (List.Mem.tail _ (List.Mem.tail _ (List.Mem.tail _ (List.Mem.tail _ (List.Mem.head _)))))))
    have k7 := H.cell (w.heap.size) 7 (.slice aR c.nr cR) (List.Mem.tail _ (List.Mem.tail _ (List.Mem.tail _ (List.Mem.tail _ (List.Mem.tail _ (List.Mem.tail _ (List.Mem.tail _ (List.Mem.head _))))))))
    have k8 := H.cell (w.heap.size) 8 (.slice aD c.nd cD) (List.Mem.tail _ (List.Mem.tail _ (List.Mem.tail _ (List.Mem.tail _ (List.Mem.tail _ (List.Mem.tail _ (List.Mem.tail _ (List.Mem.tail _ (List.Mem.head _)))))))))
    have lk := H.lt (w.heap.size) 0 (.bool (c.o 0)) ((List.Mem.head _))
    have kv := off_at v7 k0 k1 k2 k3 k4 k5 k6
    clear k0 k1 k2 k3 k4 k5 k6
    have HV := Lib.hid hv
    clear hv
    cases hov : c.o v with
    | true =>
      rw [hov] at kv
      have e : b = false := bool_not HB.out (fun g => by
        have := g.2.1
        rw [HV.out, Int.toNat_natCast, hov] at this
        cases this)
      subst e
      go_wp2
      go_ret
      exact ⟨rfl, H.old⟩
    | false =>
      rw [hov] at kv
      have HO := Lib.hid hov
      clear hov
      go_wp2_with fail
      go_loop [6] (fun i => ∃ j : Nat, j ≤ c.nd ∧ i = .int .i64 j ∧ ∀ l, l < j → c.X l ≠ n) (fun i => c.nd - (intOf i).toNat)
      case atStart => exact ⟨0, by omega, rfl, fun l g => by omega⟩
      case round =>
        obtain ⟨j, j1, rfl, hX⟩ := hrel
        have HX := Lib.hid hX
        clear hX
        by_cases hj : j < c.nd
        · obtain ⟨bD, oD, rfl, hd⟩ := (H.cal ((List.Mem.tail _ (List.Mem.tail _ (List.Mem.tail _ (List.Mem.tail _ (List.Mem.tail _ (List.Mem.tail _ (List.Mem.tail _ (List.Mem.tail _ (List.Mem.tail _ (List.Mem.tail _ (List.Mem.tail _ (List.Mem.tail _ (List.Mem.tail _ (List.Mem.tail _ (List.Mem.tail _ (List.Mem.tail _ (List.Mem.tail _ (List.Mem.tail _ (List.Mem.head _))))))))))))))))))))).2.2 (by omega)
          have kd := hd j hj
          by_cases hx : c.X j = n
          · have hx2 : (c.X j == n) = true := by simpa using hx
            have e : b = false := bool_not HB.out (fun g => g.2.2.1 j hj hx)
            subst e
            go_wp2
            go_ret
            exact ⟨rfl, H.old⟩
          · have hx2 : (c.X j == n) = false := by simpa using hx
            go_wp2
            go_round
            case rel => exact ⟨j + 1, by omega, by go_num, fun l g => by
              by_cases e : l = j
              · subst e; exact hx
              · exact HX.out l (by omega)⟩
            case measure => simp [intOf]; omega
        · obtain rfl : j = c.nd := by omega
          go_wp2_with fail
          clear kv lk k7 k8
          go_loopw [7] (fun i W' => ∃ j : Nat, j ≤ c.nr ∧ i = .int .i64 j ∧ (∀ l, l < j → ¬ (c.R l).Is n) ∧ Held w (.cell (w.heap.size) 0 (.bool (c.o 0)) :: .cell (w.heap.size) 1 (.bool (c.o 1)) :: .cell (w.heap.size) 2 (.bool (c.o 2)) :: .cell (w.heap.size) 3 (.bool (c.o 3)) :: .cell (w.heap.size) 4 (.bool (c.o 4)) :: .cell (w.heap.size) 5 (.bool (c.o 5)) :: .cell (w.heap.size) 6 (.bool (c.o 6)) :: .cell (w.heap.size) 7 (.slice aR c.nr cR) :: .cell (w.heap.size) 8 (.slice aD c.nd cD) :: .free (w.heap.size) 0 :: .free (w.heap.size) 1 :: .free (w.heap.size) 2 :: .free (w.heap.size) 3 :: .free (w.heap.size) 4 :: .free (w.heap.size) 5 :: .free (w.heap.size) 6 :: .free (w.heap.size) 7 :: .free (w.heap.size) 8 :: calF c aR cR aD cD :: []) W') (fun i _ => c.nr - (intOf i).toNat)
          case atStart => exact ⟨0, by omega, rfl, fun l g => by omega, H⟩
          case round =>
            clear H
            obtain ⟨j, j1, rfl, hR, H⟩ := hrel
            have HR := Lib.hid hR
            clear hR
            have k0 := H.cell (w.heap.size) 0 (.bool (c.o 0)) (List.Mem.head _)
            have k1 := H.cell (w.heap.size) 1 (.bool (c.o 1)) (List.Mem.tail _ (List.Mem.head _))
            have k2 := H.cell (w.heap.size) 2 (.bool (c.o 2)) (List.Mem.tail _ (List.Mem.tail _ (List.Mem.head _)))
            have k3 := H.cell (w.heap.size) 3 (.bool (c.o 3)) (List.Mem.tail _ (List.Mem.tail _ (List.Mem.tail _ (List.Mem.head _))))
            have k4 := H.cell (w.heap.size) 4 (.bool (c.o 4)) (List.Mem.tail _ (List.Mem.tail _ (List.Mem.tail _ (List.Mem.tail _ (List.Mem.head _)))))
            have k5 := H.cell (w.heap.size) 5 (.bool (c.o 5)) (List.Mem.tail _ (List.Mem.tail _ (List.Mem.tail _ (List.Mem.tail _ (List.Mem.tail _ (List.Mem.head _))))))
            have k6 := H.cell (w.heap.size) 6 (.bool (c.o 6)) (List.Mem.tail _ (List.Mem.tail _ (List.Mem.tail _ (List.Mem.tail _ (List.Mem.tail _ (List.Mem.tail _ (List.Mem.head _)))))))
            have k7 := H.cell (w.heap.size) 7 (.slice aR c.nr cR) (List.Mem.tail _ (List.Mem.tail _ (List.Mem.tail _ (List.Mem.tail _ (List.Mem.tail _ (List.Mem.tail _ (List.Mem.tail _ (List.Mem.head _))))))))
            have k8 := H.cell (w.heap.size) 8 (.slice aD c.nd cD) (List.Mem.tail _ (List.Mem.tail _ (List.Mem.tail _ (List.Mem.tail _ (List.Mem.tail _ (List.Mem.tail _ (List.Mem.tail _ (List.Mem.tail _ (List.Mem.head _)))))))))
            by_cases hj : j < c.nr
            · obtain ⟨bR, oR, rfl, hr⟩ := (H.cal ((List.Mem.tail _ (List.Mem.tail _ (List.Mem.tail _ (List.Mem.tail _ (List.Mem.tail _ (List.Mem.tail _ (List.Mem.tail _ (List.Mem.tail _ (List.Mem.tail _ (List.Mem.tail _ (List.Mem.tail _ (List.Mem.tail _ (List.Mem.tail _ (List.Mem.tail _ (List.Mem.tail _ (List.Mem.tail _ (List.Mem.tail _ (List.Mem.tail _ (List.Mem.head _))))))))))))))))))))).1.2 (by omega)
              obtain ⟨q0, q1, q2, q3, q4, q5, q6, q7⟩ := hr j hj
              clear hr
              obtain ⟨x, hx⟩ := bool_of ((c.R j).Is n)
              have Q := Lib.hid (fun v => ruis_any (c.R j).k (c.R j).m (c.R j).d (c.R j).q (c.R j).o (c.R j).s (c.R j).f (c.R j).t n x v (MM.out j hj) hx)
              have HX := Lib.hid hx
              clear hx
              go_wp2_with fail
              (with_reducible refine (Q.out _).mono ?_)
              clear q0 q1 q2 q3 q4 q5 q6 q7 k0 k1 k2 k3 k4 k5 k6 k7 k8 Q
              rintro e w3 ⟨rfl, hb⟩
              replace H := H.below hb
              clear hb
              have k0 := H.cell (w.heap.size) 0 (.bool (c.o 0)) (List.Mem.head _)
              have k1 := H.cell (w.heap.size) 1 (.bool (c.o 1)) (List.Mem.tail _ (List.Mem.head _))
              have k2 := H.cell (w.heap.size) 2 (.bool (c.o 2)) (List.Mem.tail _ (List.Mem.tail _ (List.Mem.head _)))
              have k3 := H.cell (w.heap.size) 3 (.bool (c.o 3)) (List.Mem.tail _ (List.Mem.tail _ (List.Mem.tail _ (List.Mem.head _))))
              have k4 := H.cell (w.heap.size) 4 (.bool (c.o 4)) (List.Mem.tail _ (List.Mem.tail _ (List.Mem.tail _ (List.Mem.tail _ (List.Mem.head _)))))
              have k5 := H.cell (w.heap.size) 5 (.bool (c.o 5)) (List.Mem.tail _ (List.Mem.tail _ (List.Mem.tail _ (List.Mem.tail _ (List.Mem.tail _ (List.Mem.head _))))))
              have k6 := H.cell (w.heap.size) 6 (.bool (c.o 6)) (List.Mem.tail _ (List.Mem.tail _ (List.Mem.tail _ (List.Mem.tail _ (List.Mem.tail _ (List.Mem.tail _ (List.Mem.head _)))))))
              have k7 := H.cell (w.heap.size) 7 (.slice (some ⟨bR, oR, none⟩) c.nr cR) (List.Mem.tail _ (List.Mem.tail _ (List.Mem.tail _ (List.Mem.tail _ (List.Mem.tail _ (List.Mem.tail _ (List.Mem.tail _ (List.Mem.head _))))))))
              have k8 := H.cell (w.heap.size) 8 (.slice aD c.nd cD) (List.Mem.tail _ (List.Mem.tail _ (List.Mem.tail _ (List.Mem.tail _ (List.Mem.tail _ (List.Mem.tail _ (List.Mem.tail _ (List.Mem.tail _ (List.Mem.head _)))))))))
              cases x with
              | true =>
                have e : b = false := bool_not HB.out (fun g => g.2.2.2 j hj (HX.out.1 rfl))
                subst e
                go_wp2
                go_ret
                exact ⟨rfl, H.old⟩
              | false =>
                go_wp2
                go_roundw
                case rel => exact ⟨j + 1, by omega, by go_num, fun l g => by
                  by_cases e : l = j
                  · subst e; exact fun g => absurd (HX.out.2 g) (by decide)
                  · exact HR.out l (by omega), H⟩
                case measure => simp [intOf]; omega
            · obtain rfl : j = c.nr := by omega
              have e : b = true := HB.out.2 ⟨hn, by rw [HV.out, Int.toNat_natCast]; exact HO.out, HX.out, HR.out⟩
              subst e
              go_wp2
              go_ret
              exact ⟨rfl, H.old⟩
  · have C1 := Lib.hid (fun v => rday13_is n false v (decide_eq_false hn))
    have e : b = false := bool_not HB.out (fun g => hn g.1)
    subst e
    go_enter Tryd.func23, Tryd.ntmps23
    replace H := H.box_9 (w.heap.size) (.bool (c.o 0)) (.bool (c.o 1)) (.bool (c.o 2)) (.bool (c.o 3)) (.bool (c.o 4)) (.bool (c.o 5)) (.bool (c.o 6)) (.slice aR c.nr cR) (.slice aD c.nd cD) 26 rfl
    go_wp2_with fail
    (with_reducible refine (C1.out _).mono ?_)
    rintro e w1 ⟨rfl, rfl⟩
    go_wp2
    go_ret
    exact ⟨rfl, H.old⟩
end Go.Proofs.YtkbhicdcjfpbaaaDoor
