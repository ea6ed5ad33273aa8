/- The reference of layer 13: how many days of business there are. -/
import Derived.Test.YtkadodkdbopgnaaDoorCaRefB
namespace Go.Proofs.YtkadodkdbopgnaaDoor
open Go.RowKit
set_option linter.unusedVariables false
set_option linter.unusedSimpArgs false


instance (n : Int) : Decidable (dy n) := by unfold dy; infer_instance
set_option maxHeartbeats 4000000 in
theorem rcmany_nop (c : Ca) (aR : Option Addr) (cR : Nat) (aD : Option Addr) (cD : Nat) (a b : Int) (q : Bool) (w : World) (hS : c.Small) (hM : ∀ j, j < c.nr → (c.R j).May) (hC : CalAt w c aR cR aD cD) (hp : ¬ dy a) (hq : decide (dy b) = q) : Calls Tryd.prog 20 #[.agg #[.bool (c.o 0), .bool (c.o 1), .bool (c.o 2), .bool (c.o 3), .bool (c.o 4), .bool (c.o 5), .bool (c.o 6), .slice aR c.nr cR, .slice aD c.nd cD], .int .i64 a, .int .i64 b] w fun e' w' => e' = .returned (.tuple #[.int .i64 0, .int .i64 3]) ∧ Below w.heap.size w w' := by
  have H := (Held.start w).add (f := calF c aR cR aD cD) hC
  have C1 := Lib.hid (fun v => rday13_is a false v (decide_eq_false hp))
  have C2 := Lib.hid (fun v => rday13_is b q v (hq))


  clear hp hq hS hM hC
  go_enter Tryd.func20, Tryd.ntmps20
  replace H := H.box_9 (w.heap.size) (.bool (c.o 0)) (.bool (c.o 1)) (.bool (c.o 2)) (.bool (c.o 3)) (.bool (c.o 4)) (.bool (c.o 5)) (.bool (c.o 6)) (.slice aR c.nr cR) (.slice aD c.nd cD) 26 rfl
  go_wp2_with fail
  (with_reducible refine (C1.out _).mono ?_)
  rintro e w1 ⟨rfl, rfl⟩
  go_wp2_with fail
  (with_reducible refine (C2.out _).mono ?_)
  rintro e w1 ⟨rfl, rfl⟩
  go_wp2
  go_ret2
  exact ⟨rfl, H.old⟩

set_option maxHeartbeats 4000000 in
theorem rcmany_noq (c : Ca) (aR : Option Addr) (cR : Nat) (aD : Option Addr) (cD : Nat) (a b : Int) (w : World) (hS : c.Small) (hM : ∀ j, j < c.nr → (c.R j).May) (hC : CalAt w c aR cR aD cD) (hp : dy a) (hq : ¬ dy b) : Calls Tryd.prog 20 #[.agg #[.bool (c.o 0), .bool (c.o 1), .bool (c.o 2), .bool (c.o 3), .bool (c.o 4), .bool (c.o 5), .bool (c.o 6), .slice aR c.nr cR, .slice aD c.nd cD], .int .i64 a, .int .i64 b] w fun e' w' => e' = .returned (.tuple #[.int .i64 0, .int .i64 3]) ∧ Below w.heap.size w w' := by
  have H := (Held.start w).add (f := calF c aR cR aD cD) hC
  have C1 := Lib.hid (fun v => rday13_is a true v (decide_eq_true hp))
  have C2 := Lib.hid (fun v => rday13_is b false v (decide_eq_false hq))


  clear hp hq hS hM hC
  go_enter Tryd.func20, Tryd.ntmps20
  replace H := H.box_9 (w.heap.size) (.bool (c.o 0)) (.bool (c.o 1)) (.bool (c.o 2)) (.bool (c.o 3)) (.bool (c.o 4)) (.bool (c.o 5)) (.bool (c.o 6)) (.slice aR c.nr cR) (.slice aD c.nd cD) 26 rfl
  go_wp2_with fail
  (with_reducible refine (C1.out _).mono ?_)
  rintro e w1 ⟨rfl, rfl⟩
  go_wp2_with fail
  (with_reducible refine (C2.out _).mono ?_)
  rintro e w1 ⟨rfl, rfl⟩
  go_wp2
  go_ret2
  exact ⟨rfl, H.old⟩

set_option maxHeartbeats 4000000 in
theorem rcmany_ord (c : Ca) (aR : Option Addr) (cR : Nat) (aD : Option Addr) (cD : Nat) (a b : Int) (w : World) (hS : c.Small) (hM : ∀ j, j < c.nr → (c.R j).May) (hC : CalAt w c aR cR aD cD) (hp : dy a) (hq : dy b) (ho : b < a) : Calls Tryd.prog 20 #[.agg #[.bool (c.o 0), .bool (c.o 1), .bool (c.o 2), .bool (c.o 3), .bool (c.o 4), .bool (c.o 5), .bool (c.o 6), .slice aR c.nr cR, .slice aD c.nd cD], .int .i64 a, .int .i64 b] w fun e' w' => e' = .returned (.tuple #[.int .i64 0, .int .i64 4]) ∧ Below w.heap.size w w' := by
  have H := (Held.start w).add (f := calF c aR cR aD cD) hC
  have C1 := Lib.hid (fun v => rday13_is a true v (decide_eq_true hp))
  have C2 := Lib.hid (fun v => rday13_is b true v (decide_eq_true hq))
  have p0 : -1 ≤ a ∧ a ≤ 3652060 := by unfold dy at hp; omega
  have q0 : -1 ≤ b ∧ b ≤ 3652060 := by unfold dy at hq; omega
  clear hp hq hS hM hC
  go_enter Tryd.func20, Tryd.ntmps20
  replace H := H.box_9 (w.heap.size) (.bool (c.o 0)) (.bool (c.o 1)) (.bool (c.o 2)) (.bool (c.o 3)) (.bool (c.o 4)) (.bool (c.o 5)) (.bool (c.o 6)) (.slice aR c.nr cR) (.slice aD c.nd cD) 26 rfl
  go_wp2_with fail
  (with_reducible refine (C1.out _).mono ?_)
  rintro e w1 ⟨rfl, rfl⟩
  go_wp2_with fail
  (with_reducible refine (C2.out _).mono ?_)
  rintro e w1 ⟨rfl, rfl⟩
  go_wp2
  go_ret2
  exact ⟨rfl, H.old⟩

set_option maxHeartbeats 4000000 in
theorem rcmany_bd (c : Ca) (aR : Option Addr) (cR : Nat) (aD : Option Addr) (cD : Nat) (a b : Int) (w : World) (hS : c.Small) (hM : ∀ j, j < c.nr → (c.R j).May) (hC : CalAt w c aR cR aD cD) (hp : dy a) (hq : dy b) (ho : a ≤ b) (h4 : 4000 < b - a) : Calls Tryd.prog 20 #[.agg #[.bool (c.o 0), .bool (c.o 1), .bool (c.o 2), .bool (c.o 3), .bool (c.o 4), .bool (c.o 5), .bool (c.o 6), .slice aR c.nr cR, .slice aD c.nd cD], .int .i64 a, .int .i64 b] w fun e' w' => e' = .returned (.tuple #[.int .i64 0, .int .i64 2]) ∧ Below w.heap.size w w' := by
  have H := (Held.start w).add (f := calF c aR cR aD cD) hC
  have C1 := Lib.hid (fun v => rday13_is a true v (decide_eq_true hp))
  have C2 := Lib.hid (fun v => rday13_is b true v (decide_eq_true hq))
  have p0 : -1 ≤ a ∧ a ≤ 3652060 := by unfold dy at hp; omega
  have q0 : -1 ≤ b ∧ b ≤ 3652060 := by unfold dy at hq; omega
  clear hp hq hS hM hC
  go_enter Tryd.func20, Tryd.ntmps20
  replace H := H.box_9 (w.heap.size) (.bool (c.o 0)) (.bool (c.o 1)) (.bool (c.o 2)) (.bool (c.o 3)) (.bool (c.o 4)) (.bool (c.o 5)) (.bool (c.o 6)) (.slice aR c.nr cR) (.slice aD c.nd cD) 26 rfl
  go_wp2_with fail
  (with_reducible refine (C1.out _).mono ?_)
  rintro e w1 ⟨rfl, rfl⟩
  go_wp2_with fail
  (with_reducible refine (C2.out _).mono ?_)
  rintro e w1 ⟨rfl, rfl⟩
  go_wp2
  go_ret2
  exact ⟨rfl, H.old⟩

set_option maxHeartbeats 4000000 in
theorem rcmany_in (c : Ca) (aR : Option Addr) (cR : Nat) (aD : Option Addr) (cD : Nat) (a b n : Int) (w : World) (hS : c.Small) (hM : ∀ j, j < c.nr → (c.R j).May) (hC : CalAt w c aR cR aD cD) (hp : dy a) (hq : dy b) (ho : a ≤ b) (h4 : b - a ≤ 4000) (hn : c.cnt a (b - a).toNat = n) : Calls Tryd.prog 20 #[.agg #[.bool (c.o 0), .bool (c.o 1), .bool (c.o 2), .bool (c.o 3), .bool (c.o 4), .bool (c.o 5), .bool (c.o 6), .slice aR c.nr cR, .slice aD c.nd cD], .int .i64 a, .int .i64 b] w fun e' w' => e' = .returned (.tuple #[.int .i64 n, .int .i64 0]) ∧ Below w.heap.size w w' := by
  have H := (Held.start w).add (f := calF c aR cR aD cD) hC
  have C1 := Lib.hid (fun v => rday13_is a true v (decide_eq_true hp))
  have C2 := Lib.hid (fun v => rday13_is b true v (decide_eq_true hq))
  have HS := Lib.hid hS
  have HM := Lib.hid hM
  have HN := Lib.hid hn
  obtain ⟨p1, p2⟩ := hp
  obtain ⟨q1, q2⟩ := hq
  clear hS hM hC hn
  go_enter Tryd.func20, Tryd.ntmps20
  replace H := H.box_9 (w.heap.size) (.bool (c.o 0)) (.bool (c.o 1)) (.bool (c.o 2)) (.bool (c.o 3)) (.bool (c.o 4)) (.bool (c.o 5)) (.bool (c.o 6)) (.slice aR c.nr cR) (.slice aD c.nd cD) 26 rfl
  go_wp2_with fail
  (with_reducible refine (C1.out _).mono ?_)
  rintro e w1 ⟨rfl, rfl⟩
  go_wp2_with fail
  (with_reducible refine (C2.out _).mono ?_)
  rintro e w1 ⟨rfl, rfl⟩
  go_wp2_with fail
  go_loopw [10, 11] (fun u i W' => ∃ (j : Nat), (j : Int) ≤ b - a ∧ i = .int .i64 (a + j) ∧ u = .int .i64 (c.cnt a j) ∧ Held w (.cell (w.heap.size) 0 (.bool (c.o 0)) :: .cell (w.heap.size) 1 (.bool (c.o 1)) :: .cell (w.heap.size) 2 (.bool (c.o 2)) :: .cell (w.heap.size) 3 (.bool (c.o 3)) :: .cell (w.heap.size) 4 (.bool (c.o 4)) :: .cell (w.heap.size) 5 (.bool (c.o 5)) :: .cell (w.heap.size) 6 (.bool (c.o 6)) :: .cell (w.heap.size) 7 (.slice aR c.nr cR) :: .cell (w.heap.size) 8 (.slice aD c.nd cD) :: .free (w.heap.size) 0 :: .free (w.heap.size) 1 :: .free (w.heap.size) 2 :: .free (w.heap.size) 3 :: .free (w.heap.size) 4 :: .free (w.heap.size) 5 :: .free (w.heap.size) 6 :: .free (w.heap.size) 7 :: .free (w.heap.size) 8 :: calF c aR cR aD cD :: []) W') (fun _ i _ => (b - intOf i).toNat)
  case atStart => exact ⟨0, by omega, by simp, rfl, H⟩
  case round =>
    clear H
    obtain ⟨j, j1, rfl, rfl, H⟩ := hrel
    have cb := c.cnt_bd a j
    have k0 := H.cell (w.heap.size) 0 (.bool (c.o 0)) (List.Mem.head _)
    have k1 := H.cell (w.heap.size) 1 (.bool (c.o 1)) (List.Mem.tail _ (List.Mem.head _))
    have k2 := H.cell (w.heap.size) 2 (.bool (c.o 2)) (List.Mem.tail _ (List.Mem.tail _ (List.Mem.head _)))
    have k3 := H.cell (w.heap.size) 3 (.bool (c.o 3)) (List.Mem.tail _ (List.Mem.tail _ (List.Mem.tail _ (List.Mem.head _))))
    have k4 := H.cell (w.heap.size) 4 (.bool (c.o 4)) (List.Mem.tail _ (List.Mem.tail _ (List.Mem.tail _ (List.Mem.tail _ (List.Mem.head _)))))
    have k5 := H.cell (w.heap.size) 5 (.bool (c.o 5)) (List.Mem.tail _ (List.Mem.tail _ (List.Mem.tail _ (List.Mem.tail _ (List.Mem.tail _ (List.Mem.head _))))))
    have k6 := H.cell (w.heap.size) 6 (.bool (c.o 6)) (List.Mem.tail _ (List.Mem.tail _ (List.Mem.tail _ (List.Mem.tail _ (List.Mem.tail _ (List.Mem.tail _ (List.Mem.head _)))))))
    have k7 := H.cell (w.heap.size) 7 (.slice aR c.nr cR) (List.Mem.tail _ (List.Mem.tail _ (List.Mem.tail _ (List.Mem.tail _ (List.Mem.tail _ (List.Mem.tail _ (List.Mem.tail _ (List.Mem.head _))))))))
    have k8 := H.cell (w.heap.size) 8 (.slice aD c.nd cD) (List.Mem.tail _ (List.Mem.tail _ (List.Mem.tail _ (List.Mem.tail _ (List.Mem.tail _ (List.Mem.tail _ (List.Mem.tail _ (List.Mem.tail _ (List.Mem.head _)))))))))
    by_cases hj : a + j < b
    · have st := Lib.hid (c.cnt_succ a j)
      obtain ⟨m, hm⟩ : ∃ m, c.cnt a j = m := ⟨_, rfl⟩
      rw [hm] at cb st
      rw [hm]
      obtain ⟨x, hx⟩ : ∃ x, c.ib (a + j) = x := ⟨_, rfl⟩
      rw [hx] at st
      have Q := Lib.hid (rcis_any c aR cR aD cD (a + j) x _ HS.out HM.out (H.cal ((List.Mem.tail _ (List.Mem.tail _ (List.Mem.tail _ (List.Mem.tail _ (List.Mem.tail _ (List.Mem.tail _ (List.Mem.tail _ (List.Mem.tail _ (List.Mem.tail _ (List.Mem.tail _ (List.Mem.tail _ (List.Mem.tail _ (List.Mem.tail _ (List.Mem.tail _ (List.Mem.tail _ (List.Mem.tail _ (List.Mem.tail _ (List.Mem.tail _ (List.Mem.head _))))))))))))))))))))) (by rw [← hx]; exact Ca.ib_iff))
      clear hx
      go_wp2_with fail
      (with_reducible refine (Q.out).mono ?_)
      clear k0 k1 k2 k3 k4 k5 k6 k7 k8 Q
      rintro e w3 ⟨rfl, hb⟩
      replace H := H.below hb
      clear hb
      have k0 := H.cell (w.heap.size) 0 (.bool (c.o 0)) (List.Mem.head _)
      have k1 := H.cell (w.heap.size) 1 (.bool (c.o 1)) (List.Mem.tail _ (List.Mem.head _))
      have k2 := H.cell (w.heap.size) 2 (.bool (c.o 2)) (List.Mem.tail _ (List.Mem.tail _ (List.Mem.head _)))
      have k3 := H.cell (w.heap.size) 3 (.bool (c.o 3)) (List.Mem.tail _ (List.Mem.tail _ (List.Mem.tail _ (List.Mem.head _))))
      have k4 := H.cell (w.heap.size) 4 (.bool (c.o 4)) (List.Mem.tail _ (List.Mem.tail _ (List.Mem.tail _ (List.Mem.tail _ (List.Mem.head _)))))
      have k5 := H.cell (w.heap.size) 5 (.bool (c.o 5)) (List.Mem.tail _ (List.Mem.tail _ (List.Mem.tail _ (List.Mem.tail _ (List.Mem.tail _ (List.Mem.head _))))))
      have k6 := H.cell (w.heap.size) 6 (.bool (c.o 6)) (List.Mem.tail _ (List.Mem.tail _ (List.Mem.tail _ (List.Mem.tail _ (List.Mem.tail _ (List.Mem.tail _ (List.Mem.head _)))))))
      have k7 := H.cell (w.heap.size) 7 (.slice aR c.nr cR) (List.Mem.tail _ (List.Mem.tail _ (List.Mem.tail _ (List.Mem.tail _ (List.Mem.tail _ (List.Mem.tail _ (List.Mem.tail _ (List.Mem.head _))))))))
      have k8 := H.cell (w.heap.size) 8 (.slice aD c.nd cD) (List.Mem.tail _ (List.Mem.tail _ (List.Mem.tail _ (List.Mem.tail _ (List.Mem.tail _ (List.Mem.tail _ (List.Mem.tail _ (List.Mem.tail _ (List.Mem.head _)))))))))
      cases x
      · go_wp2
        go_roundw
        case rel => exact ⟨j + 1, by omega, by simp only [Value.int.injEq, true_and]; omega, by rw [st.out]; simp, H⟩
        case measure => simp [intOf]; omega
      · go_wp2
        go_roundw
        case rel => exact ⟨j + 1, by omega, by simp only [Value.int.injEq, true_and]; omega, by rw [st.out]; simp, H⟩
        case measure => simp [intOf]; omega
    · have e : (b - a).toNat = j := by omega
      have e2 : c.cnt a j = n := by rw [← HN.out, e]
      rw [e2]
      go_wp2
      go_ret2
      exact ⟨rfl, H.old⟩

theorem rcmany_any (c : Ca) (aR : Option Addr) (cR : Nat) (aD : Option Addr) (cD : Nat) (a b n e : Int) (w : World) (hS : c.Small) (hM : ∀ j, j < c.nr → (c.R j).May) (hC : CalAt w c aR cR aD cD) (h : ManyIs c a b n e) : Calls Tryd.prog 20 #[.agg #[.bool (c.o 0), .bool (c.o 1), .bool (c.o 2), .bool (c.o 3), .bool (c.o 4), .bool (c.o 5), .bool (c.o 6), .slice aR c.nr cR, .slice aD c.nd cD], .int .i64 a, .int .i64 b] w fun e' w' => e' = .returned (.tuple #[.int .i64 n, .int .i64 e]) ∧ Below w.heap.size w w' := by
  rcases h with ⟨h1, h2, h3, h4, h5, rfl⟩ | ⟨h1, rfl, rfl⟩ | ⟨h1, h2, rfl, rfl⟩ | ⟨h1, h2, h3, rfl, rfl⟩
  · exact rcmany_in c aR cR aD cD a b n w hS hM hC h1 h2 h3 h4 h5.symm
  · by_cases p : dy a
    · exact rcmany_noq c aR cR aD cD a b w hS hM hC p (fun q => h1 ⟨p, q⟩)
    · exact rcmany_nop c aR cR aD cD a b _ w hS hM hC p rfl
  · exact rcmany_ord c aR cR aD cD a b w hS hM hC h1.1 h1.2 h2
  · exact rcmany_bd c aR cR aD cD a b w hS hM hC h1.1 h1.2 h2 h3
end Go.Proofs.YtkadodkdbopgnaaDoor
