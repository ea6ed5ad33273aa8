/- IsoOrder: the walk. -/
import Derived.Test.YtgdhpganognmlaaDoorIsShown
namespace Go.Proofs.YtgdhpganognmlaaDoor
open Go.RowKit
set_option linter.unusedVariables false
set_option linter.unusedSimpArgs false

set_option maxHeartbeats 4000000 in
set_option maxRecDepth 100000 in
theorem iorder_o1 (n m : Int) (w : World) (hL : Tabs w) (h : n < 1 ∨ 3652059 < n) :
    Calls Tryd.prog 5 #[.int .i64 n, .int .i64 m] w fun e w' => e = .returned (.bool true) ∧ Below w.heap.size w w' := by
  have H := (Held.start w).add (f := tabsF) hL
  clear hL
  have D1 : Hid (decide (1 ≤ n ∧ n ≤ 3652059) = false) := Lib.hid (by rw [decide_eq_false_iff_not]; omega)
  clear h
  go_enter Tryd.func5, Tryd.ntmps5
  go_wp2_with fail
  (with_reducible refine (ishown_any _ (H.tabs (List.Mem.head _))).mono ?_)
  rintro e w1 ⟨rfl, hb⟩
  replace H := H.below hb
  clear hb
  go_wp2_with fail
  (with_reducible refine (day_of_is n false _ D1.out).mono ?_)
  rintro e w2 ⟨rfl, hb⟩
  replace H := H.below hb
  clear hb
  go_wp2_with fail
  go_ret
  exact ⟨rfl, H.old⟩

set_option maxHeartbeats 4000000 in
set_option maxRecDepth 100000 in
theorem iorder_o2 (n m : Int) (w : World) (hL : Tabs w) (h1 : 1 ≤ n ∧ n ≤ 3652059) (h : m < 1 ∨ 3652059 < m) :
    Calls Tryd.prog 5 #[.int .i64 n, .int .i64 m] w fun e w' => e = .returned (.bool true) ∧ Below w.heap.size w w' := by
  have H := (Held.start w).add (f := tabsF) hL
  clear hL
  have D1 : Hid (decide (1 ≤ n ∧ n ≤ 3652059) = true) := Lib.hid (by rw [decide_eq_true_eq]; exact h1)
  have D2 : Hid (decide (1 ≤ m ∧ m ≤ 3652059) = false) := Lib.hid (by rw [decide_eq_false_iff_not]; omega)
  clear h h1
  go_enter Tryd.func5, Tryd.ntmps5
  go_wp2_with fail
  (with_reducible refine (ishown_any _ (H.tabs (List.Mem.head _))).mono ?_)
  rintro e w1 ⟨rfl, hb⟩
  replace H := H.below hb
  clear hb
  go_wp2_with fail
  (with_reducible refine (day_of_is n true _ D1.out).mono ?_)
  rintro e w2 ⟨rfl, hb⟩
  replace H := H.below hb
  clear hb
  go_wp2_with fail
  (with_reducible refine (day_of_is m false _ D2.out).mono ?_)
  rintro e w3 ⟨rfl, hb⟩
  replace H := H.below hb
  clear hb
  go_wp2_with fail
  go_ret
  exact ⟨rfl, H.old⟩

set_option maxHeartbeats 4000000 in
set_option maxRecDepth 100000 in
theorem iorder_in (n m : Int) (a b : List UInt8) (w : World) (hL : Tabs w) (h1 : 1 ≤ n ∧ n ≤ 3652059) (h2 : 1 ≤ m ∧ m ≤ 3652059) (ha : ShowIs n a 0) (hb : ShowIs m b 0) (hlt : Op.bytesLess a b = decide (n < m)) (heq : (a == b) = (n == m)) :
    Calls Tryd.prog 5 #[.int .i64 n, .int .i64 m] w fun e w' => e = .returned (.bool true) ∧ Below w.heap.size w w' := by
  have H := (Held.start w).add (f := tabsF) hL
  clear hL
  have D1 : Hid (decide (1 ≤ n ∧ n ≤ 3652059) = true) := Lib.hid (by rw [decide_eq_true_eq]; exact h1)
  have D2 : Hid (decide (1 ≤ m ∧ m ≤ 3652059) = true) := Lib.hid (by rw [decide_eq_true_eq]; exact h2)
  have S1 := Lib.hid ha
  have S2 := Lib.hid hb
  clear h1 h2 ha hb
  go_enter Tryd.func5, Tryd.ntmps5
  go_wp2_with fail
  (with_reducible refine (ishown_any _ (H.tabs (List.Mem.head _))).mono ?_)
  rintro e w1 ⟨rfl, hb⟩
  replace H := H.below hb
  clear hb
  go_wp2_with fail
  (with_reducible refine (day_of_is n true _ D1.out).mono ?_)
  rintro e w2 ⟨rfl, hb⟩
  replace H := H.below hb
  clear hb
  go_wp2_with fail
  (with_reducible refine (day_of_is m true _ D2.out).mono ?_)
  rintro e w3 ⟨rfl, hb⟩
  replace H := H.below hb
  clear hb
  go_wp2_with fail
  (with_reducible refine (show_any n 0 a _ (H.tabs (List.Mem.head _)) S1.out).mono ?_)
  rintro e w4 ⟨rfl, hb⟩
  replace H := H.below hb
  clear hb
  go_wp2_with fail
  (with_reducible refine (show_any m 0 b _ (H.tabs (List.Mem.head _)) S2.out).mono ?_)
  rintro e w5 ⟨rfl, hb⟩
  replace H := H.below hb
  clear hb
  go_wp2_with fail
  go_ret
  exact ⟨rfl, H.old⟩

theorem iorder_walk (n m : Int) (w : World) (hL : Tabs w) (hn : -9223372036854775808 ≤ n ∧ n < 9223372036854775808) (hm : -9223372036854775808 ≤ m ∧ m < 9223372036854775808) :
    Calls Tryd.prog 5 #[.int .i64 n, .int .i64 m] w fun e w' => e = .returned (.bool true) ∧ Below w.heap.size w w' := by
  by_cases h1 : n < 1 ∨ 3652059 < n
  · exact iorder_o1 n m w hL h1
  · by_cases h2 : m < 1 ∨ 3652059 < m
    · exact iorder_o2 n m w hL (by omega) h2
    · obtain ⟨y, o, d, a, b⟩ := day_of n (by omega) (by omega)
      obtain ⟨y', o', d', a', b'⟩ := day_of m (by omega) (by omega)
      have p := may_bd a
      have q := may_bd a'
      have less := txt_less y o d y' o' d' p.1 p.2.1 p.2.2.1 p.2.2.2.1 p.2.2.2.2.1 p.2.2.2.2.2 q.1 q.2.1 q.2.2.1 q.2.2.2.1 q.2.2.2.2.1 q.2.2.2.2.2
      refine iorder_in n m _ _ w hL (by omega) (by omega) (show_in y o d a b rfl) (show_in y' o' d' a' b' rfl) ?_ ?_
      · rw [Bool.eq_iff_iff, less, decide_eq_true_eq]
        constructor
        · intro h
          have := nb_lt _ _ _ _ _ _ a a' h
          omega
        · intro h
          by_cases e : y < y' ∨ y = y' ∧ (o < o' ∨ o = o' ∧ d < d')
          · exact e
          · exfalso
            by_cases f : y' < y ∨ y' = y ∧ (o' < o ∨ o' = o ∧ d' < d)
            · have := nb_lt _ _ _ _ _ _ a' a f
              omega
            · have hy : y = y' := by omega
              have ho : o = o' := by omega
              have hd : d = d' := by omega
              subst hy ho hd
              omega
      · rw [Bool.eq_iff_iff, beq_iff_eq, beq_iff_eq]
        constructor
        · intro h
          obtain ⟨rfl, rfl, rfl⟩ := txt_inj y o d y' o' d' p.1 p.2.1 p.2.2.1 p.2.2.2.1 p.2.2.2.2.1 p.2.2.2.2.2 q.1 q.2.1 q.2.2.1 q.2.2.2.1 q.2.2.2.2.1 q.2.2.2.2.2 h
          omega
        · intro h
          obtain ⟨rfl, rfl, rfl⟩ := nb_inj _ _ _ _ _ _ a a' (by omega)
          rfl
end Go.Proofs.YtgdhpganognmlaaDoor
