/- MonthsRise: the walk. -/
import Derived.Test.YtmbhcomkdcodfaaDoorMoShown
namespace Go.Proofs.YtmbhcomkdcodfaaDoor
open Go.RowKit
set_option linter.unusedVariables false
set_option linter.unusedSimpArgs false

/-- A day of a later month has the greater number. -/
theorem nb_later (y m d y' m' d' : Int) (h : may y m d) (h' : may y' m' d') (hl : 12 * y + m < 12 * y' + m') : nb y m d < nb y' m' d' := by
  have a := h
  have b := h'
  obtain ⟨a1, a2, a3, a4, a5, a6⟩ := a
  obtain ⟨b1, b2, b3, b4, b5, b6⟩ := b
  exact nb_lt y m d y' m' d' h h' (by omega)

set_option maxHeartbeats 4000000 in
set_option maxRecDepth 100000 in
theorem mrise_out1 (n m k v : Int) (w : World) (hL : Lens w) (h : n < 1 ∨ 3652059 < n) :
    Calls Tryd.prog 7 #[.agg #[.int .i64 n, .int .i64 m, .int .i16 k, .int .u8 v]] w fun e w' => e = .returned (.bool true) ∧ Below w.heap.size w w' := by
  have H := (Held.start w).add (f := lensF) hL
  clear hL
  have D1 : Hid (decide (1 ≤ n ∧ n ≤ 3652059) = false) := Lib.hid (by rw [decide_eq_false_iff_not]; omega)
  clear h
  go_enter Tryd.func7, Tryd.ntmps7
  go_wp2_with fail
  replace H := (H.alloc (.cells #[.int .i64 n, .int .i64 m, .int .i16 k, .int .u8 v] 43))
  (with_reducible refine (mshown_any _ (H.lens (List.Mem.head _))).mono ?_)
  rintro e w1 ⟨rfl, hb⟩
  replace H := H.below hb
  clear hb
  go_wp2_with fail
  (with_reducible refine (rday_is n false _ D1.out).mono ?_)
  rintro e w2 ⟨rfl, hb⟩
  replace H := H.below hb
  clear hb
  go_wp2_with fail
  go_ret
  exact ⟨rfl, H.old⟩

set_option maxHeartbeats 4000000 in
set_option maxRecDepth 100000 in
theorem mrise_out2 (n m k v : Int) (w : World) (hL : Lens w) (h1 : 1 ≤ n ∧ n ≤ 3652059) (h : m < 1 ∨ 3652059 < m) :
    Calls Tryd.prog 7 #[.agg #[.int .i64 n, .int .i64 m, .int .i16 k, .int .u8 v]] w fun e w' => e = .returned (.bool true) ∧ Below w.heap.size w w' := by
  have H := (Held.start w).add (f := lensF) hL
  clear hL
  have D1 : Hid (decide (1 ≤ n ∧ n ≤ 3652059) = true) := Lib.hid (by rw [decide_eq_true_eq]; exact h1)
  have D2 : Hid (decide (1 ≤ m ∧ m ≤ 3652059) = false) := Lib.hid (by rw [decide_eq_false_iff_not]; omega)
  clear h h1
  go_enter Tryd.func7, Tryd.ntmps7
  go_wp2_with fail
  replace H := (H.alloc (.cells #[.int .i64 n, .int .i64 m, .int .i16 k, .int .u8 v] 43))
  (with_reducible refine (mshown_any _ (H.lens (List.Mem.head _))).mono ?_)
  rintro e w1 ⟨rfl, hb⟩
  replace H := H.below hb
  clear hb
  go_wp2_with fail
  (with_reducible refine (rday_is n true _ D1.out).mono ?_)
  rintro e w2 ⟨rfl, hb⟩
  replace H := H.below hb
  clear hb
  go_wp2_with fail
  (with_reducible refine (rday_is m false _ D2.out).mono ?_)
  rintro e w3 ⟨rfl, hb⟩
  replace H := H.below hb
  clear hb
  go_wp2_with fail
  go_ret
  exact ⟨rfl, H.old⟩

set_option maxHeartbeats 4000000 in
set_option maxRecDepth 100000 in
theorem mrise_far (n m k v b c f g : Int) (w : World) (hL : Lens w) (h1 : 1 ≤ n ∧ n ≤ 3652059) (h2 : 1 ≤ m ∧ m ≤ 3652059) (hk : -32768 ≤ k ∧ k < 32768) (hv : 0 ≤ v ∧ v < 256) (ha : MoveIs n k false 0 3) (hb : MoveIs n (k + 1 + v) false b f) (hc : MoveIs m k false c g) (hd : MoveIs n k true 0 3) :
    Calls Tryd.prog 7 #[.agg #[.int .i64 n, .int .i64 m, .int .i16 k, .int .u8 v]] w fun e w' => e = .returned (.bool true) ∧ Below w.heap.size w w' := by
  have H := (Held.start w).add (f := lensF) hL
  clear hL
  have D1 : Hid (decide (1 ≤ n ∧ n ≤ 3652059) = true) := Lib.hid (by rw [decide_eq_true_eq]; exact h1)
  have D2 : Hid (decide (1 ≤ m ∧ m ≤ 3652059) = true) := Lib.hid (by rw [decide_eq_true_eq]; exact h2)
  have MA := Lib.hid ha
  have MB := Lib.hid hb
  have MC := Lib.hid hc
  have MD := Lib.hid hd
  clear ha hb hc hd
  clear h1 h2
  go_enter Tryd.func7, Tryd.ntmps7
  go_wp2_with fail
  replace H := (H.alloc (.cells #[.int .i64 n, .int .i64 m, .int .i16 k, .int .u8 v] 43))
  (with_reducible refine (mshown_any _ (H.lens (List.Mem.head _))).mono ?_)
  rintro e w1 ⟨rfl, hb⟩
  replace H := H.below hb
  clear hb
  go_wp2_with fail
  (with_reducible refine (rday_is n true _ D1.out).mono ?_)
  rintro e w2 ⟨rfl, hb⟩
  replace H := H.below hb
  clear hb
  go_wp2_with fail
  (with_reducible refine (rday_is m true _ D2.out).mono ?_)
  rintro e w3 ⟨rfl, hb⟩
  replace H := H.below hb
  clear hb
  go_wp2_with fail
  (with_reducible refine (shift_any n k 0 3 _ (H.lens (List.Mem.head _)) MA.out).mono ?_)
  rintro e w4 ⟨rfl, hb⟩
  replace H := H.below hb
  clear hb
  go_wp2_with fail
  (with_reducible refine (shift_any n (k + 1 + v) b f _ (H.lens (List.Mem.head _)) MB.out).mono ?_)
  rintro e w5 ⟨rfl, hb⟩
  replace H := H.below hb
  clear hb
  go_wp2_with fail
  (with_reducible refine (shift_any m k c g _ (H.lens (List.Mem.head _)) MC.out).mono ?_)
  rintro e w6 ⟨rfl, hb⟩
  replace H := H.below hb
  clear hb
  go_wp2_with fail
  (with_reducible refine (move_any n k 0 3 true _ (H.lens (List.Mem.head _)) MD.out).mono ?_)
  rintro e w7 ⟨rfl, hb⟩
  replace H := H.below hb
  clear hb
  go_wp2_with fail
  go_ret
  exact ⟨rfl, H.old⟩

set_option maxHeartbeats 4000000 in
set_option maxRecDepth 100000 in
theorem mrise_0no (n m k v a b d : Int) (w : World) (hL : Lens w) (h1 : 1 ≤ n ∧ n ≤ 3652059) (h2 : 1 ≤ m ∧ m ≤ 3652059) (hk : -32768 ≤ k ∧ k < 32768) (hv : 0 ≤ v ∧ v < 256) (ha : MoveIs n k false a 0) (hb : MoveIs n (k + 1 + v) false b 0) (hc : MoveIs m k false 0 3) (hd : MoveIs n k true d 0) (a0 : 1 ≤ a ∧ a ≤ 3652059) (t1 : ¬ d < a) (t2 : ¬ d > a + 30) (t3 : ¬ b ≤ a) :
    Calls Tryd.prog 7 #[.agg #[.int .i64 n, .int .i64 m, .int .i16 k, .int .u8 v]] w fun e w' => e = .returned (.bool true) ∧ Below w.heap.size w w' := by
  have H := (Held.start w).add (f := lensF) hL
  clear hL
  have D1 : Hid (decide (1 ≤ n ∧ n ≤ 3652059) = true) := Lib.hid (by rw [decide_eq_true_eq]; exact h1)
  have D2 : Hid (decide (1 ≤ m ∧ m ≤ 3652059) = true) := Lib.hid (by rw [decide_eq_true_eq]; exact h2)
  have MA := Lib.hid ha
  have MB := Lib.hid hb
  have MC := Lib.hid hc
  have MD := Lib.hid hd
  clear ha hb hc hd
  clear h1 h2
  go_enter Tryd.func7, Tryd.ntmps7
  go_wp2_with fail
  replace H := (H.alloc (.cells #[.int .i64 n, .int .i64 m, .int .i16 k, .int .u8 v] 43))
  (with_reducible refine (mshown_any _ (H.lens (List.Mem.head _))).mono ?_)
  rintro e w1 ⟨rfl, hb⟩
  replace H := H.below hb
  clear hb
  go_wp2_with fail
  (with_reducible refine (rday_is n true _ D1.out).mono ?_)
  rintro e w2 ⟨rfl, hb⟩
  replace H := H.below hb
  clear hb
  go_wp2_with fail
  (with_reducible refine (rday_is m true _ D2.out).mono ?_)
  rintro e w3 ⟨rfl, hb⟩
  replace H := H.below hb
  clear hb
  go_wp2_with fail
  (with_reducible refine (shift_any n k a 0 _ (H.lens (List.Mem.head _)) MA.out).mono ?_)
  rintro e w4 ⟨rfl, hb⟩
  replace H := H.below hb
  clear hb
  go_wp2_with fail
  (with_reducible refine (shift_any n (k + 1 + v) b 0 _ (H.lens (List.Mem.head _)) MB.out).mono ?_)
  rintro e w5 ⟨rfl, hb⟩
  replace H := H.below hb
  clear hb
  go_wp2_with fail
  (with_reducible refine (shift_any m k 0 3 _ (H.lens (List.Mem.head _)) MC.out).mono ?_)
  rintro e w6 ⟨rfl, hb⟩
  replace H := H.below hb
  clear hb
  go_wp2_with fail
  (with_reducible refine (move_any n k d 0 true _ (H.lens (List.Mem.head _)) MD.out).mono ?_)
  rintro e w7 ⟨rfl, hb⟩
  replace H := H.below hb
  clear hb
  go_wp2_with fail
  go_ret
  exact ⟨rfl, H.old⟩

set_option maxHeartbeats 4000000 in
set_option maxRecDepth 100000 in
theorem mrise_0gt (n m k v a b c d : Int) (w : World) (hL : Lens w) (h1 : 1 ≤ n ∧ n ≤ 3652059) (h2 : 1 ≤ m ∧ m ≤ 3652059) (hk : -32768 ≤ k ∧ k < 32768) (hv : 0 ≤ v ∧ v < 256) (ha : MoveIs n k false a 0) (hb : MoveIs n (k + 1 + v) false b 0) (hc : MoveIs m k false c 0) (hd : MoveIs n k true d 0) (a0 : 1 ≤ a ∧ a ≤ 3652059) (t1 : ¬ d < a) (t2 : ¬ d > a + 30) (t3 : ¬ b ≤ a) (t4 : n > m) :
    Calls Tryd.prog 7 #[.agg #[.int .i64 n, .int .i64 m, .int .i16 k, .int .u8 v]] w fun e w' => e = .returned (.bool true) ∧ Below w.heap.size w w' := by
  have H := (Held.start w).add (f := lensF) hL
  clear hL
  have D1 : Hid (decide (1 ≤ n ∧ n ≤ 3652059) = true) := Lib.hid (by rw [decide_eq_true_eq]; exact h1)
  have D2 : Hid (decide (1 ≤ m ∧ m ≤ 3652059) = true) := Lib.hid (by rw [decide_eq_true_eq]; exact h2)
  have MA := Lib.hid ha
  have MB := Lib.hid hb
  have MC := Lib.hid hc
  have MD := Lib.hid hd
  clear ha hb hc hd
  go_enter Tryd.func7, Tryd.ntmps7
  go_wp2_with fail
  replace H := (H.alloc (.cells #[.int .i64 n, .int .i64 m, .int .i16 k, .int .u8 v] 43))
  (with_reducible refine (mshown_any _ (H.lens (List.Mem.head _))).mono ?_)
  rintro e w1 ⟨rfl, hb⟩
  replace H := H.below hb
  clear hb
  go_wp2_with fail
  (with_reducible refine (rday_is n true _ D1.out).mono ?_)
  rintro e w2 ⟨rfl, hb⟩
  replace H := H.below hb
  clear hb
  go_wp2_with fail
  (with_reducible refine (rday_is m true _ D2.out).mono ?_)
  rintro e w3 ⟨rfl, hb⟩
  replace H := H.below hb
  clear hb
  go_wp2_with fail
  (with_reducible refine (shift_any n k a 0 _ (H.lens (List.Mem.head _)) MA.out).mono ?_)
  rintro e w4 ⟨rfl, hb⟩
  replace H := H.below hb
  clear hb
  go_wp2_with fail
  (with_reducible refine (shift_any n (k + 1 + v) b 0 _ (H.lens (List.Mem.head _)) MB.out).mono ?_)
  rintro e w5 ⟨rfl, hb⟩
  replace H := H.below hb
  clear hb
  go_wp2_with fail
  (with_reducible refine (shift_any m k c 0 _ (H.lens (List.Mem.head _)) MC.out).mono ?_)
  rintro e w6 ⟨rfl, hb⟩
  replace H := H.below hb
  clear hb
  go_wp2_with fail
  (with_reducible refine (move_any n k d 0 true _ (H.lens (List.Mem.head _)) MD.out).mono ?_)
  rintro e w7 ⟨rfl, hb⟩
  replace H := H.below hb
  clear hb
  go_wp2_with fail
  go_ret
  exact ⟨rfl, H.old⟩

set_option maxHeartbeats 4000000 in
set_option maxRecDepth 100000 in
theorem mrise_0le (n m k v a b c d : Int) (w : World) (hL : Lens w) (h1 : 1 ≤ n ∧ n ≤ 3652059) (h2 : 1 ≤ m ∧ m ≤ 3652059) (hk : -32768 ≤ k ∧ k < 32768) (hv : 0 ≤ v ∧ v < 256) (ha : MoveIs n k false a 0) (hb : MoveIs n (k + 1 + v) false b 0) (hc : MoveIs m k false c 0) (hd : MoveIs n k true d 0) (a0 : 1 ≤ a ∧ a ≤ 3652059) (t1 : ¬ d < a) (t2 : ¬ d > a + 30) (t3 : ¬ b ≤ a) (t4 : ¬ n > m) (t5 : a ≤ c) :
    Calls Tryd.prog 7 #[.agg #[.int .i64 n, .int .i64 m, .int .i16 k, .int .u8 v]] w fun e w' => e = .returned (.bool true) ∧ Below w.heap.size w w' := by
  have H := (Held.start w).add (f := lensF) hL
  clear hL
  have D1 : Hid (decide (1 ≤ n ∧ n ≤ 3652059) = true) := Lib.hid (by rw [decide_eq_true_eq]; exact h1)
  have D2 : Hid (decide (1 ≤ m ∧ m ≤ 3652059) = true) := Lib.hid (by rw [decide_eq_true_eq]; exact h2)
  have MA := Lib.hid ha
  have MB := Lib.hid hb
  have MC := Lib.hid hc
  have MD := Lib.hid hd
  clear ha hb hc hd
  go_enter Tryd.func7, Tryd.ntmps7
  go_wp2_with fail
  replace H := (H.alloc (.cells #[.int .i64 n, .int .i64 m, .int .i16 k, .int .u8 v] 43))
  (with_reducible refine (mshown_any _ (H.lens (List.Mem.head _))).mono ?_)
  rintro e w1 ⟨rfl, hb⟩
  replace H := H.below hb
  clear hb
  go_wp2_with fail
  (with_reducible refine (rday_is n true _ D1.out).mono ?_)
  rintro e w2 ⟨rfl, hb⟩
  replace H := H.below hb
  clear hb
  go_wp2_with fail
  (with_reducible refine (rday_is m true _ D2.out).mono ?_)
  rintro e w3 ⟨rfl, hb⟩
  replace H := H.below hb
  clear hb
  go_wp2_with fail
  (with_reducible refine (shift_any n k a 0 _ (H.lens (List.Mem.head _)) MA.out).mono ?_)
  rintro e w4 ⟨rfl, hb⟩
  replace H := H.below hb
  clear hb
  go_wp2_with fail
  (with_reducible refine (shift_any n (k + 1 + v) b 0 _ (H.lens (List.Mem.head _)) MB.out).mono ?_)
  rintro e w5 ⟨rfl, hb⟩
  replace H := H.below hb
  clear hb
  go_wp2_with fail
  (with_reducible refine (shift_any m k c 0 _ (H.lens (List.Mem.head _)) MC.out).mono ?_)
  rintro e w6 ⟨rfl, hb⟩
  replace H := H.below hb
  clear hb
  go_wp2_with fail
  (with_reducible refine (move_any n k d 0 true _ (H.lens (List.Mem.head _)) MD.out).mono ?_)
  rintro e w7 ⟨rfl, hb⟩
  replace H := H.below hb
  clear hb
  go_wp2_with fail
  go_ret
  exact ⟨rfl, H.old⟩

set_option maxHeartbeats 4000000 in
set_option maxRecDepth 100000 in
theorem mrise_3no (n m k v a d : Int) (w : World) (hL : Lens w) (h1 : 1 ≤ n ∧ n ≤ 3652059) (h2 : 1 ≤ m ∧ m ≤ 3652059) (hk : -32768 ≤ k ∧ k < 32768) (hv : 0 ≤ v ∧ v < 256) (ha : MoveIs n k false a 0) (hb : MoveIs n (k + 1 + v) false 0 3) (hc : MoveIs m k false 0 3) (hd : MoveIs n k true d 0) (a0 : 1 ≤ a ∧ a ≤ 3652059) (t1 : ¬ d < a) (t2 : ¬ d > a + 30) :
    Calls Tryd.prog 7 #[.agg #[.int .i64 n, .int .i64 m, .int .i16 k, .int .u8 v]] w fun e w' => e = .returned (.bool true) ∧ Below w.heap.size w w' := by
  have H := (Held.start w).add (f := lensF) hL
  clear hL
  have D1 : Hid (decide (1 ≤ n ∧ n ≤ 3652059) = true) := Lib.hid (by rw [decide_eq_true_eq]; exact h1)
  have D2 : Hid (decide (1 ≤ m ∧ m ≤ 3652059) = true) := Lib.hid (by rw [decide_eq_true_eq]; exact h2)
  have MA := Lib.hid ha
  have MB := Lib.hid hb
  have MC := Lib.hid hc
  have MD := Lib.hid hd
  clear ha hb hc hd
  clear h1 h2
  go_enter Tryd.func7, Tryd.ntmps7
  go_wp2_with fail
  replace H := (H.alloc (.cells #[.int .i64 n, .int .i64 m, .int .i16 k, .int .u8 v] 43))
  (with_reducible refine (mshown_any _ (H.lens (List.Mem.head _))).mono ?_)
  rintro e w1 ⟨rfl, hb⟩
  replace H := H.below hb
  clear hb
  go_wp2_with fail
  (with_reducible refine (rday_is n true _ D1.out).mono ?_)
  rintro e w2 ⟨rfl, hb⟩
  replace H := H.below hb
  clear hb
  go_wp2_with fail
  (with_reducible refine (rday_is m true _ D2.out).mono ?_)
  rintro e w3 ⟨rfl, hb⟩
  replace H := H.below hb
  clear hb
  go_wp2_with fail
  (with_reducible refine (shift_any n k a 0 _ (H.lens (List.Mem.head _)) MA.out).mono ?_)
  rintro e w4 ⟨rfl, hb⟩
  replace H := H.below hb
  clear hb
  go_wp2_with fail
  (with_reducible refine (shift_any n (k + 1 + v) 0 3 _ (H.lens (List.Mem.head _)) MB.out).mono ?_)
  rintro e w5 ⟨rfl, hb⟩
  replace H := H.below hb
  clear hb
  go_wp2_with fail
  (with_reducible refine (shift_any m k 0 3 _ (H.lens (List.Mem.head _)) MC.out).mono ?_)
  rintro e w6 ⟨rfl, hb⟩
  replace H := H.below hb
  clear hb
  go_wp2_with fail
  (with_reducible refine (move_any n k d 0 true _ (H.lens (List.Mem.head _)) MD.out).mono ?_)
  rintro e w7 ⟨rfl, hb⟩
  replace H := H.below hb
  clear hb
  go_wp2_with fail
  go_ret
  exact ⟨rfl, H.old⟩

set_option maxHeartbeats 4000000 in
set_option maxRecDepth 100000 in
theorem mrise_3gt (n m k v a c d : Int) (w : World) (hL : Lens w) (h1 : 1 ≤ n ∧ n ≤ 3652059) (h2 : 1 ≤ m ∧ m ≤ 3652059) (hk : -32768 ≤ k ∧ k < 32768) (hv : 0 ≤ v ∧ v < 256) (ha : MoveIs n k false a 0) (hb : MoveIs n (k + 1 + v) false 0 3) (hc : MoveIs m k false c 0) (hd : MoveIs n k true d 0) (a0 : 1 ≤ a ∧ a ≤ 3652059) (t1 : ¬ d < a) (t2 : ¬ d > a + 30) (t4 : n > m) :
    Calls Tryd.prog 7 #[.agg #[.int .i64 n, .int .i64 m, .int .i16 k, .int .u8 v]] w fun e w' => e = .returned (.bool true) ∧ Below w.heap.size w w' := by
  have H := (Held.start w).add (f := lensF) hL
  clear hL
  have D1 : Hid (decide (1 ≤ n ∧ n ≤ 3652059) = true) := Lib.hid (by rw [decide_eq_true_eq]; exact h1)
  have D2 : Hid (decide (1 ≤ m ∧ m ≤ 3652059) = true) := Lib.hid (by rw [decide_eq_true_eq]; exact h2)
  have MA := Lib.hid ha
  have MB := Lib.hid hb
  have MC := Lib.hid hc
  have MD := Lib.hid hd
  clear ha hb hc hd
  go_enter Tryd.func7, Tryd.ntmps7
  go_wp2_with fail
  replace H := (H.alloc (.cells #[.int .i64 n, .int .i64 m, .int .i16 k, .int .u8 v] 43))
  (with_reducible refine (mshown_any _ (H.lens (List.Mem.head _))).mono ?_)
  rintro e w1 ⟨rfl, hb⟩
  replace H := H.below hb
  clear hb
  go_wp2_with fail
  (with_reducible refine (rday_is n true _ D1.out).mono ?_)
  rintro e w2 ⟨rfl, hb⟩
  replace H := H.below hb
  clear hb
  go_wp2_with fail
  (with_reducible refine (rday_is m true _ D2.out).mono ?_)
  rintro e w3 ⟨rfl, hb⟩
  replace H := H.below hb
  clear hb
  go_wp2_with fail
  (with_reducible refine (shift_any n k a 0 _ (H.lens (List.Mem.head _)) MA.out).mono ?_)
  rintro e w4 ⟨rfl, hb⟩
  replace H := H.below hb
  clear hb
  go_wp2_with fail
  (with_reducible refine (shift_any n (k + 1 + v) 0 3 _ (H.lens (List.Mem.head _)) MB.out).mono ?_)
  rintro e w5 ⟨rfl, hb⟩
  replace H := H.below hb
  clear hb
  go_wp2_with fail
  (with_reducible refine (shift_any m k c 0 _ (H.lens (List.Mem.head _)) MC.out).mono ?_)
  rintro e w6 ⟨rfl, hb⟩
  replace H := H.below hb
  clear hb
  go_wp2_with fail
  (with_reducible refine (move_any n k d 0 true _ (H.lens (List.Mem.head _)) MD.out).mono ?_)
  rintro e w7 ⟨rfl, hb⟩
  replace H := H.below hb
  clear hb
  go_wp2_with fail
  go_ret
  exact ⟨rfl, H.old⟩

set_option maxHeartbeats 4000000 in
set_option maxRecDepth 100000 in
theorem mrise_3le (n m k v a c d : Int) (w : World) (hL : Lens w) (h1 : 1 ≤ n ∧ n ≤ 3652059) (h2 : 1 ≤ m ∧ m ≤ 3652059) (hk : -32768 ≤ k ∧ k < 32768) (hv : 0 ≤ v ∧ v < 256) (ha : MoveIs n k false a 0) (hb : MoveIs n (k + 1 + v) false 0 3) (hc : MoveIs m k false c 0) (hd : MoveIs n k true d 0) (a0 : 1 ≤ a ∧ a ≤ 3652059) (t1 : ¬ d < a) (t2 : ¬ d > a + 30) (t4 : ¬ n > m) (t5 : a ≤ c) :
    Calls Tryd.prog 7 #[.agg #[.int .i64 n, .int .i64 m, .int .i16 k, .int .u8 v]] w fun e w' => e = .returned (.bool true) ∧ Below w.heap.size w w' := by
  have H := (Held.start w).add (f := lensF) hL
  clear hL
  have D1 : Hid (decide (1 ≤ n ∧ n ≤ 3652059) = true) := Lib.hid (by rw [decide_eq_true_eq]; exact h1)
  have D2 : Hid (decide (1 ≤ m ∧ m ≤ 3652059) = true) := Lib.hid (by rw [decide_eq_true_eq]; exact h2)
  have MA := Lib.hid ha
  have MB := Lib.hid hb
  have MC := Lib.hid hc
  have MD := Lib.hid hd
  clear ha hb hc hd
  go_enter Tryd.func7, Tryd.ntmps7
  go_wp2_with fail
  replace H := (H.alloc (.cells #[.int .i64 n, .int .i64 m, .int .i16 k, .int .u8 v] 43))
  (with_reducible refine (mshown_any _ (H.lens (List.Mem.head _))).mono ?_)
  rintro e w1 ⟨rfl, hb⟩
  replace H := H.below hb
  clear hb
  go_wp2_with fail
  (with_reducible refine (rday_is n true _ D1.out).mono ?_)
  rintro e w2 ⟨rfl, hb⟩
  replace H := H.below hb
  clear hb
  go_wp2_with fail
  (with_reducible refine (rday_is m true _ D2.out).mono ?_)
  rintro e w3 ⟨rfl, hb⟩
  replace H := H.below hb
  clear hb
  go_wp2_with fail
  (with_reducible refine (shift_any n k a 0 _ (H.lens (List.Mem.head _)) MA.out).mono ?_)
  rintro e w4 ⟨rfl, hb⟩
  replace H := H.below hb
  clear hb
  go_wp2_with fail
  (with_reducible refine (shift_any n (k + 1 + v) 0 3 _ (H.lens (List.Mem.head _)) MB.out).mono ?_)
  rintro e w5 ⟨rfl, hb⟩
  replace H := H.below hb
  clear hb
  go_wp2_with fail
  (with_reducible refine (shift_any m k c 0 _ (H.lens (List.Mem.head _)) MC.out).mono ?_)
  rintro e w6 ⟨rfl, hb⟩
  replace H := H.below hb
  clear hb
  go_wp2_with fail
  (with_reducible refine (move_any n k d 0 true _ (H.lens (List.Mem.head _)) MD.out).mono ?_)
  rintro e w7 ⟨rfl, hb⟩
  replace H := H.below hb
  clear hb
  go_wp2_with fail
  go_ret
  exact ⟨rfl, H.old⟩

theorem mrise_walk (n m k v : Int) (w : World) (hL : Lens w) (hn : -9223372036854775808 ≤ n ∧ n < 9223372036854775808) (hm : -9223372036854775808 ≤ m ∧ m < 9223372036854775808) (hk : -32768 ≤ k ∧ k < 32768) (hv : 0 ≤ v ∧ v < 256) : Calls Tryd.prog 7 #[.agg #[.int .i64 n, .int .i64 m, .int .i16 k, .int .u8 v]] w fun e w' => e = .returned (.bool true) ∧ Below w.heap.size w w' := by
  by_cases h1 : n < 1 ∨ 3652059 < n
  · exact mrise_out1 n m k v w hL h1
  · by_cases h2 : m < 1 ∨ 3652059 < m
    · exact mrise_out2 n m k v w hL (by omega) h2
    · obtain ⟨y, o, q, a1, a2⟩ := day_of n (by omega) (by omega)
      obtain ⟨y', o', q', b1, b2⟩ := day_of m (by omega) (by omega)
      have R1 : 1 ≤ n ∧ n ≤ 3652059 := by omega
      have R2 : 1 ≤ m ∧ m ≤ 3652059 := by omega
      obtain ⟨b, f, hb⟩ := move_is n (k + 1 + v) false
      obtain ⟨c, g, hc⟩ := move_is m k false
      by_cases fa : 12 * y + o + k < 13 ∨ 120000 < 12 * y + o + k
      · exact mrise_far n m k v b c f g w hL R1 R2 hk hv (move_far y o q a1 a2 fa) hb hc (move_far y o q a1 a2 fa)
      · have e0 : ∀ (y m d Y M : Int), dm false y m d Y M = min d (ln Y M) := fun y m d Y M => by unfold dm; simp
        obtain ⟨Y, M, x1, x2, x3, x4, hM⟩ : ∃ Y M : Int, 1 ≤ Y ∧ Y ≤ 9999 ∧ 1 ≤ M ∧ M ≤ 12 ∧ 12 * Y + M = 12 * y + o + k :=
          ⟨(12 * y + o + k - 1) / 12, (12 * y + o + k - 1) % 12 + 1, by omega, by omega, by omega, by omega, by omega⟩
        have hA := dm_may false y o q Y M a1 x1 x2 x3 x4
        have hD := dm_may true y o q Y M a1 x1 x2 x3 x4
        have ha : MoveIs n k false (nb Y M (dm false y o q Y M)) 0 := move_in y o q Y M _ a1 a2 x1 x2 x3 x4 hM rfl rfl
        have hd : MoveIs n k true (nb Y M (dm true y o q Y M)) 0 := move_in y o q Y M _ a1 a2 x1 x2 x3 x4 hM rfl rfl
        have bd := nb_bd _ _ _ hA
        have lb := ln_le Y M
        have t12 : nb Y M (dm false y o q Y M) ≤ nb Y M (dm true y o q Y M) ∧ nb Y M (dm true y o q Y M) ≤ nb Y M (dm false y o q Y M) + 30 := by
          have u : ∀ D, nb Y M D = nb Y M 0 + D := fun D => by unfold nb; omega
          rw [u (dm true _ _ _ _ _), u (dm false _ _ _ _ _)]
          obtain ⟨-, -, -, -, p1, p2⟩ := hA
          obtain ⟨-, -, -, -, p3, p4⟩ := hD
          have p5 : dm false y o q Y M ≤ dm true y o q Y M := by
            rw [e0]; unfold dm; split <;> omega
          omega
        have t3 : f = 0 → nb Y M (dm false y o q Y M) < b := by
          intro hf
          rcases hb with ⟨Y1, M1, D1, Y3, M3, c1, c2, c3, c4, c5, c6, c7, c8, -⟩ | ⟨-, -, hf'⟩ | ⟨-, -, hf'⟩
          · obtain ⟨rfl, rfl, rfl⟩ := nb_inj _ _ _ _ _ _ c1 a1 (c2.trans a2.symm)
            rw [← c8]
            exact nb_later _ _ _ _ _ _ hA (dm_may _ _ _ _ _ _ c1 c3 c4 c5 c6) (by omega)
          · omega
          · omega
        have hf : f = 0 ∨ (f = 3 ∧ b = 0) := by
          rcases hb with ⟨_, _, _, _, _, _, _, _, _, _, _, _, _, e⟩ | ⟨-, e1, e2⟩ | ⟨-, e1, e2⟩
          · exact Or.inl e
          · exact Or.inr ⟨e2, e1⟩
          · exact Or.inr ⟨e2, e1⟩
        have hg : g = 0 ∨ (g = 3 ∧ c = 0) := by
          rcases hc with ⟨_, _, _, _, _, _, _, _, _, _, _, _, _, e⟩ | ⟨-, e1, e2⟩ | ⟨-, e1, e2⟩
          · exact Or.inl e
          · exact Or.inr ⟨e2, e1⟩
          · exact Or.inr ⟨e2, e1⟩
        have t5 : g = 0 → n ≤ m → nb Y M (dm false y o q Y M) ≤ c := by
          intro hg0 hnm
          rcases hc with ⟨Y1, M1, D1, Y3, M3, c1, c2, c3, c4, c5, c6, c7, c8, -⟩ | ⟨-, -, hf'⟩ | ⟨-, -, hf'⟩
          · obtain ⟨rfl, rfl, rfl⟩ := nb_inj _ _ _ _ _ _ c1 b1 (c2.trans b2.symm)
            rw [← c8]
            have hC := dm_may false _ _ _ _ _ c1 c3 c4 c5 c6
            by_cases k1 : 12 * y + o < 12 * Y1 + M1
            · exact Int.le_of_lt (nb_later _ _ _ _ _ _ hA hC (by omega))
            · by_cases k2 : 12 * Y1 + M1 < 12 * y + o
              · have := nb_later _ _ _ _ _ _ c1 a1 k2
                omega
              · have a1' := a1
                have c1' := c1
                obtain ⟨-, -, p1, p2, -, -⟩ := a1'
                obtain ⟨-, -, p3, p4, -, -⟩ := c1'
                obtain rfl : y = Y1 := by omega
                obtain rfl : o = M1 := by omega
                obtain rfl : Y = Y3 := by omega
                obtain rfl : M = M3 := by omega
                have u : ∀ y m D, nb y m D = nb y m 0 + D := fun y m D => by unfold nb; omega
                have v1 := u y o q
                have v2 := u y o D1
                rw [u Y M (dm false y o q Y M), u Y M (dm false y o D1 Y M), e0, e0]
                omega
          · omega
          · omega
        have T1 : ¬ nb Y M (dm true y o q Y M) < nb Y M (dm false y o q Y M) := by omega
        have T2 : ¬ nb Y M (dm true y o q Y M) > nb Y M (dm false y o q Y M) + 30 := by omega
        rcases hf with rfl | ⟨rfl, rfl⟩
        · have T3 : ¬ b ≤ nb Y M (dm false y o q Y M) := by have := t3 rfl; omega
          rcases hg with rfl | ⟨rfl, rfl⟩
          · by_cases T4 : n > m
            · exact mrise_0gt n m k v _ b c _ w hL R1 R2 hk hv ha hb hc hd bd T1 T2 T3 T4
            · exact mrise_0le n m k v _ b c _ w hL R1 R2 hk hv ha hb hc hd bd T1 T2 T3 T4 (t5 rfl (by omega))
          · exact mrise_0no n m k v _ b _ w hL R1 R2 hk hv ha hb hc hd bd T1 T2 T3
        · rcases hg with rfl | ⟨rfl, rfl⟩
          · by_cases T4 : n > m
            · exact mrise_3gt n m k v _ c _ w hL R1 R2 hk hv ha hb hc hd bd T1 T2 T4
            · exact mrise_3le n m k v _ c _ w hL R1 R2 hk hv ha hb hc hd bd T1 T2 T4 (t5 rfl (by omega))
          · exact mrise_3no n m k v _ _ w hL R1 R2 hk hv ha hb hc hd bd T1 T2
end Go.Proofs.YtmbhcomkdcodfaaDoor
