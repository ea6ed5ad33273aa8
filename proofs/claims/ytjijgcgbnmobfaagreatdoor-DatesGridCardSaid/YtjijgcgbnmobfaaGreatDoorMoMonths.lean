/- Package months: Last, End, Shift, Move. -/
import Derived.Test.YtjijgcgbnmobfaaGreatDoorMoCut
namespace Go.Proofs.YtjijgcgbnmobfaaGreatDoor
open Go.RowKit
set_option linter.unusedVariables false

set_option maxHeartbeats 1000000 in
theorem last_in_any (n y m d : Int) (b : Bool) (w : World) (hL : Lens w) (h : may y m d) (hn : nb y m d = n) (hb : decide (d = ln y m) = b) :
    Calls Tryz.prog 57 #[.int .i64 n] w fun e' w' => e' = .returned (.bool b) ∧ Below w.heap.size w w' := by
  have H := (Held.start w).add (f := lensF) hL
  clear hL
  have O1 : Hid (DayIs n y m d 0) := Lib.hid (Or.inl ⟨h, hn, rfl⟩)
  have HB := Lib.hid hb
  clear h hn hb
  go_enter Tryz.func57, Tryz.ntmps57
  go_wp2_with fail
  (with_reducible refine (civ_any n y m d 0 _ (H.lens (List.Mem.head _)) O1.out).mono ?_)
  rintro e w1 ⟨rfl, hb⟩
  replace H := H.below hb
  clear hb
  go_wp2_with fail
  replace H := (H.triple (w1.heap.size) (.int .i64 y) (.int .i64 m) (.int .i64 d) 40 rfl)
  have cc0 := H.cell (w1.heap.size) 0 (.int .i64 y) (List.Mem.head _)
  have cc1 := H.cell (w1.heap.size) 1 (.int .i64 m) (List.Mem.tail _ (List.Mem.head _))
  have cc2 := H.cell (w1.heap.size) 2 (.int .i64 d) (List.Mem.tail _ (List.Mem.tail _ (List.Mem.head _)))
  have lc := H.lt (w1.heap.size) 0 (.int .i64 y) (List.Mem.head _)
  (with_reducible refine (cutb_any y m d (w1.heap.size) b _ (H.lens (List.Mem.tail _ (List.Mem.tail _ (List.Mem.tail _ (List.Mem.tail _ (List.Mem.tail _ (List.Mem.tail _ (List.Mem.head _)))))))) cc0 cc1 cc2 HB.out).mono ?_)
  rintro e w2 ⟨rfl, hb⟩
  replace H := H.below hb
  clear hb
  go_wp2
  go_ret
  exact ⟨rfl, H.old⟩

set_option maxHeartbeats 1000000 in
theorem last_out_any (n : Int) (w : World) (hL : Lens w) (h : n < 1 ∨ 3652059 < n) :
    Calls Tryz.prog 57 #[.int .i64 n] w fun e' w' => e' = .returned (.bool false) ∧ Below w.heap.size w w' := by
  have H := (Held.start w).add (f := lensF) hL
  clear hL
  have O1 : Hid (DayIs n 0 0 0 3) := Lib.hid (Or.inr ⟨h, rfl, rfl, rfl, rfl⟩)
  clear h
  go_enter Tryz.func57, Tryz.ntmps57
  go_wp2_with fail
  (with_reducible refine (civ_any n 0 0 0 3 _ (H.lens (List.Mem.head _)) O1.out).mono ?_)
  rintro e w1 ⟨rfl, hb⟩
  replace H := H.below hb
  clear hb
  go_wp2_with fail
  replace H := (H.triple (w1.heap.size) (.int .i64 0) (.int .i64 0) (.int .i64 0) 40 rfl)
  go_ret
  exact ⟨rfl, H.old⟩

theorem last_any (n : Int) (b : Bool) (w : World) (hL : Lens w) (h : LastIs n b) : Calls Tryz.prog 57 #[.int .i64 n] w fun e' w' => e' = .returned (.bool b) ∧ Below w.heap.size w w' := by
  rcases h with ⟨y, m, d, h1, h2, rfl⟩ | ⟨h, rfl⟩
  · exact last_in_any n y m d _ w hL h1 h2 rfl
  · exact last_out_any n w hL h

set_option maxHeartbeats 1000000 in
theorem end_in_any (n y m d r : Int) (w : World) (hL : Lens w) (h : may y m d) (hn : nb y m d = n) (hr : nb y m (ln y m) = r) :
    Calls Tryz.prog 58 #[.int .i64 n] w fun e' w' => e' = .returned (.tuple #[.int .i64 r, .int .i64 0]) ∧ Below w.heap.size w w' := by
  have H := (Held.start w).add (f := lensF) hL
  clear hL
  have O1 : Hid (DayIs n y m d 0) := Lib.hid (Or.inl ⟨h, hn, rfl⟩)
  have HB : Hid (nN y m (min 31 (ln y m)) = r ∧ nE y m (min 31 (ln y m)) = 0) := Lib.hid (by
    rw [Int.min_eq_right (ln_le y m).2, ← hr]; exact n_yes (end_may y m d h))
  clear h hn hr
  go_enter Tryz.func58, Tryz.ntmps58
  go_wp2_with fail
  (with_reducible refine (civ_any n y m d 0 _ (H.lens (List.Mem.head _)) O1.out).mono ?_)
  rintro e w1 ⟨rfl, hb⟩
  replace H := H.below hb
  clear hb
  go_wp2_with fail
  replace H := (H.triple (w1.heap.size) (.int .i64 y) (.int .i64 m) (.int .i64 d) 40 rfl)
  (with_reducible refine (cut_any y m 31 r 0 _ (H.lens (List.Mem.tail _ (List.Mem.tail _ (List.Mem.tail _ (List.Mem.tail _ (List.Mem.tail _ (List.Mem.tail _ (List.Mem.head _)))))))) HB.out).mono ?_)
  rintro e w2 ⟨rfl, hb⟩
  replace H := H.below hb
  clear hb
  go_wp2
  go_ret2
  exact ⟨rfl, H.old⟩

set_option maxHeartbeats 1000000 in
theorem end_out_any (n : Int) (w : World) (hL : Lens w) (h : n < 1 ∨ 3652059 < n) :
    Calls Tryz.prog 58 #[.int .i64 n] w fun e' w' => e' = .returned (.tuple #[.int .i64 0, .int .i64 3]) ∧ Below w.heap.size w w' := by
  have H := (Held.start w).add (f := lensF) hL
  clear hL
  have O1 : Hid (DayIs n 0 0 0 3) := Lib.hid (Or.inr ⟨h, rfl, rfl, rfl, rfl⟩)
  clear h
  go_enter Tryz.func58, Tryz.ntmps58
  go_wp2_with fail
  (with_reducible refine (civ_any n 0 0 0 3 _ (H.lens (List.Mem.head _)) O1.out).mono ?_)
  rintro e w1 ⟨rfl, hb⟩
  replace H := H.below hb
  clear hb
  go_wp2_with fail
  replace H := (H.triple (w1.heap.size) (.int .i64 0) (.int .i64 0) (.int .i64 0) 40 rfl)
  go_ret2
  exact ⟨rfl, H.old⟩

theorem end_any (n r e : Int) (w : World) (hL : Lens w) (h : EndIs n r e) : Calls Tryz.prog 58 #[.int .i64 n] w fun e' w' => e' = .returned (.tuple #[.int .i64 r, .int .i64 e]) ∧ Below w.heap.size w w' := by
  rcases h with ⟨y, m, d, h1, h2, rfl, rfl⟩ | ⟨h, rfl, rfl⟩
  · exact end_in_any n y m d _ w hL h1 h2 rfl
  · exact end_out_any n w hL h

set_option maxHeartbeats 1000000 in
theorem shift_in_any (n k y m d Y M r : Int) (w : World) (hL : Lens w) (h : may y m d) (hn : nb y m d = n) (h1 : 1 ≤ Y) (h2 : Y ≤ 9999) (h3 : 1 ≤ M) (h4 : M ≤ 12) (hM : 12 * Y + M = 12 * y + m + k) (hr : nb Y M (min d (ln Y M)) = r) :
    Calls Tryz.prog 56 #[.int .i64 n, .int .i64 k] w fun e' w' => e' = .returned (.tuple #[.int .i64 r, .int .i64 0]) ∧ Below w.heap.size w w' := by
  have H := (Held.start w).add (f := lensF) hL
  clear hL
  have O1 : Hid (DayIs n y m d 0) := Lib.hid (Or.inl ⟨h, hn, rfl⟩)
  have HB : Hid (nN Y M (min d (ln Y M)) = r ∧ nE Y M (min d (ln Y M)) = 0) := Lib.hid (by
    rw [← hr]; have := dm_may false y m d Y M h h1 h2 h3 h4; unfold dm at this; simp only [Bool.false_eq_true, false_and, if_false] at this; exact n_yes this)
  have C1 := Lib.hid (fun v => on_in y m d k Y M v h h1 h2 h3 h4 hM)
  clear h hn hr hM
  go_enter Tryz.func56, Tryz.ntmps56
  go_wp2_with fail
  (with_reducible refine (civ_any n y m d 0 _ (H.lens (List.Mem.head _)) O1.out).mono ?_)
  rintro e w1 ⟨rfl, hb⟩
  replace H := H.below hb
  clear hb
  go_wp2_with fail
  replace H := (H.triple (w1.heap.size) (.int .i64 y) (.int .i64 m) (.int .i64 d) 40 rfl)
  (with_reducible refine (C1.out _).mono ?_)
  rintro e w2 ⟨rfl, hb⟩
  replace H := H.below hb
  clear hb
  have cc0 := H.cell (w1.heap.size) 0 (.int .i64 y) (List.Mem.head _)
  have cc1 := H.cell (w1.heap.size) 1 (.int .i64 m) (List.Mem.tail _ (List.Mem.head _))
  have cc2 := H.cell (w1.heap.size) 2 (.int .i64 d) (List.Mem.tail _ (List.Mem.tail _ (List.Mem.head _)))
  have lc := H.lt (w1.heap.size) 0 (.int .i64 y) (List.Mem.head _)
  go_wp2_with fail
  clear cc0 cc1 cc2 lc
  (with_reducible refine (cut_any Y M d r 0 _ (H.lens (List.Mem.tail _ (List.Mem.tail _ (List.Mem.tail _ (List.Mem.tail _ (List.Mem.tail _ (List.Mem.tail _ (List.Mem.head _)))))))) HB.out).mono ?_)
  rintro e w3 ⟨rfl, hb⟩
  replace H := H.below hb
  clear hb
  go_wp2
  go_ret2
  exact ⟨rfl, H.old⟩

set_option maxHeartbeats 1000000 in
theorem shift_far_any (n k y m d : Int) (w : World) (hL : Lens w) (h : may y m d) (hn : nb y m d = n) (hk : 12 * y + m + k < 13 ∨ 120000 < 12 * y + m + k) :
    Calls Tryz.prog 56 #[.int .i64 n, .int .i64 k] w fun e' w' => e' = .returned (.tuple #[.int .i64 0, .int .i64 3]) ∧ Below w.heap.size w w' := by
  have H := (Held.start w).add (f := lensF) hL
  clear hL
  have O1 : Hid (DayIs n y m d 0) := Lib.hid (Or.inl ⟨h, hn, rfl⟩)
  have C1 := Lib.hid (fun v => on_far y m d k v h hk)
  clear h hn hk
  go_enter Tryz.func56, Tryz.ntmps56
  go_wp2_with fail
  (with_reducible refine (civ_any n y m d 0 _ (H.lens (List.Mem.head _)) O1.out).mono ?_)
  rintro e w1 ⟨rfl, hb⟩
  replace H := H.below hb
  clear hb
  go_wp2_with fail
  replace H := (H.triple (w1.heap.size) (.int .i64 y) (.int .i64 m) (.int .i64 d) 40 rfl)
  (with_reducible refine (C1.out _).mono ?_)
  rintro e w2 ⟨rfl, hb⟩
  replace H := H.below hb
  clear hb
  go_wp2
  go_ret2
  exact ⟨rfl, H.old⟩

set_option maxHeartbeats 1000000 in
theorem shift_out_any (n k : Int) (w : World) (hL : Lens w) (h : n < 1 ∨ 3652059 < n) :
    Calls Tryz.prog 56 #[.int .i64 n, .int .i64 k] w fun e' w' => e' = .returned (.tuple #[.int .i64 0, .int .i64 3]) ∧ Below w.heap.size w w' := by
  have H := (Held.start w).add (f := lensF) hL
  clear hL
  have O1 : Hid (DayIs n 0 0 0 3) := Lib.hid (Or.inr ⟨h, rfl, rfl, rfl, rfl⟩)
  clear h
  go_enter Tryz.func56, Tryz.ntmps56
  go_wp2_with fail
  (with_reducible refine (civ_any n 0 0 0 3 _ (H.lens (List.Mem.head _)) O1.out).mono ?_)
  rintro e w1 ⟨rfl, hb⟩
  replace H := H.below hb
  clear hb
  go_wp2_with fail
  replace H := (H.triple (w1.heap.size) (.int .i64 0) (.int .i64 0) (.int .i64 0) 40 rfl)
  go_ret2
  exact ⟨rfl, H.old⟩

theorem shift_any (n k r e : Int) (w : World) (hL : Lens w) (h : MoveIs n k false r e) : Calls Tryz.prog 56 #[.int .i64 n, .int .i64 k] w fun e' w' => e' = .returned (.tuple #[.int .i64 r, .int .i64 e]) ∧ Below w.heap.size w w' := by
  rcases h with ⟨y, m, d, Y, M, h, hn, h1, h2, h3, h4, hM, rfl, rfl⟩ | ⟨⟨y, m, d, h, hn, hk⟩, rfl, rfl⟩ | ⟨h, rfl, rfl⟩
  · exact shift_in_any n k y m d Y M _ w hL h hn h1 h2 h3 h4 hM (by unfold dm; simp)
  · exact shift_far_any n k y m d w hL h hn hk
  · exact shift_out_any n k w hL h

set_option maxHeartbeats 1000000 in
theorem move_end_any (n k y m Y M r : Int) (w : World) (hL : Lens w) (h : may y m (ln y m)) (hn : nb y m (ln y m) = n) (h1 : 1 ≤ Y) (h2 : Y ≤ 9999) (h3 : 1 ≤ M) (h4 : M ≤ 12) (hM : 12 * Y + M = 12 * y + m + k) (hr : nb Y M (ln Y M) = r) :
    Calls Tryz.prog 42 #[.int .i64 n, .int .i64 k, .bool true] w fun e' w' => e' = .returned (.tuple #[.int .i64 r, .int .i64 0]) ∧ Below w.heap.size w w' := by
  have H := (Held.start w).add (f := lensF) hL
  clear hL
  obtain ⟨s, hs⟩ : ∃ s, nb Y M (min (ln y m) (ln Y M)) = s := ⟨_, rfl⟩
  have hD := dm_may false y m (ln y m) Y M h h1 h2 h3 h4
  have e : dm false y m (ln y m) Y M = min (ln y m) (ln Y M) := by unfold dm; simp
  rw [e] at hD
  have M1 : Hid (MoveIs n k false s 0) := Lib.hid (move_in y m (ln y m) Y M _ h hn h1 h2 h3 h4 hM e hs)
  have L1 : Hid (LastIs n true) := Lib.hid (last_in y m (ln y m) h hn (by simp))
  have E1 : Hid (EndIs s r 0) := Lib.hid (end_in Y M _ hD hs hr)
  clear h hn hM hr hs hD e
  go_enter Tryz.func42, Tryz.ntmps42
  go_wp2_with fail
  (with_reducible refine (shift_any n k s 0 _ (H.lens (List.Mem.head _)) M1.out).mono ?_)
  rintro e w1 ⟨rfl, hb⟩
  replace H := H.below hb
  clear hb
  go_wp2_with fail
  (with_reducible refine (last_any n true _ (H.lens (List.Mem.head _)) L1.out).mono ?_)
  rintro e w2 ⟨rfl, hb⟩
  replace H := H.below hb
  clear hb
  go_wp2_with fail
  (with_reducible refine (end_any s r 0 _ (H.lens (List.Mem.head _)) E1.out).mono ?_)
  rintro e w3 ⟨rfl, hb⟩
  replace H := H.below hb
  clear hb
  go_wp2
  go_ret2
  exact ⟨rfl, H.old⟩

set_option maxHeartbeats 1000000 in
theorem move_not_any (n k r : Int) (w : World) (hL : Lens w) (hm : MoveIs n k false r 0) (hl : LastIs n false) :
    Calls Tryz.prog 42 #[.int .i64 n, .int .i64 k, .bool true] w fun e' w' => e' = .returned (.tuple #[.int .i64 r, .int .i64 0]) ∧ Below w.heap.size w w' := by
  have H := (Held.start w).add (f := lensF) hL
  clear hL
  have M1 := Lib.hid hm
  have L1 := Lib.hid hl
  clear hm hl
  go_enter Tryz.func42, Tryz.ntmps42
  go_wp2_with fail
  (with_reducible refine (shift_any n k r 0 _ (H.lens (List.Mem.head _)) M1.out).mono ?_)
  rintro e w1 ⟨rfl, hb⟩
  replace H := H.below hb
  clear hb
  go_wp2_with fail
  (with_reducible refine (last_any n false _ (H.lens (List.Mem.head _)) L1.out).mono ?_)
  rintro e w2 ⟨rfl, hb⟩
  replace H := H.below hb
  clear hb
  go_wp2
  go_ret2
  exact ⟨rfl, H.old⟩

set_option maxHeartbeats 1000000 in
theorem move_false_any (n k r e : Int) (w : World) (hL : Lens w) (hm : MoveIs n k false r e) (he : e = 0 ∨ e = 3) :
    Calls Tryz.prog 42 #[.int .i64 n, .int .i64 k, .bool false] w fun e' w' => e' = .returned (.tuple #[.int .i64 r, .int .i64 e]) ∧ Below w.heap.size w w' := by
  have H := (Held.start w).add (f := lensF) hL
  clear hL
  have M1 := Lib.hid hm
  clear hm
  rcases he with rfl | rfl
  · go_enter Tryz.func42, Tryz.ntmps42
    go_wp2_with fail
    (with_reducible refine (shift_any n k r 0 _ (H.lens (List.Mem.head _)) M1.out).mono ?_)
    rintro e w1 ⟨rfl, hb⟩
    replace H := H.below hb
    clear hb
    go_wp2
    go_ret2
    exact ⟨rfl, H.old⟩
  · go_enter Tryz.func42, Tryz.ntmps42
    go_wp2_with fail
    (with_reducible refine (shift_any n k r 3 _ (H.lens (List.Mem.head _)) M1.out).mono ?_)
    rintro e w1 ⟨rfl, hb⟩
    replace H := H.below hb
    clear hb
    go_wp2
    go_ret2
    exact ⟨rfl, H.old⟩

set_option maxHeartbeats 1000000 in
theorem move_bad_any (n k r : Int) (b : Bool) (w : World) (hL : Lens w) (hm : MoveIs n k false r 3) :
    Calls Tryz.prog 42 #[.int .i64 n, .int .i64 k, .bool b] w fun e' w' => e' = .returned (.tuple #[.int .i64 r, .int .i64 3]) ∧ Below w.heap.size w w' := by
  have H := (Held.start w).add (f := lensF) hL
  clear hL
  have M1 := Lib.hid hm
  clear hm
  go_enter Tryz.func42, Tryz.ntmps42
  go_wp2_with fail
  (with_reducible refine (shift_any n k r 3 _ (H.lens (List.Mem.head _)) M1.out).mono ?_)
  rintro e w1 ⟨rfl, hb⟩
  replace H := H.below hb
  clear hb
  go_wp2
  go_ret2
  exact ⟨rfl, H.old⟩

theorem move_any (n k r e : Int) (b : Bool) (w : World) (hL : Lens w) (h : MoveIs n k b r e) : Calls Tryz.prog 42 #[.int .i64 n, .int .i64 k, .bool b] w fun e' w' => e' = .returned (.tuple #[.int .i64 r, .int .i64 e]) ∧ Below w.heap.size w w' := by
  rcases h with ⟨y, m, d, Y, M, h, hn, h1, h2, h3, h4, hM, hr, rfl⟩ | ⟨⟨y, m, d, h, hn, hk⟩, rfl, rfl⟩ | ⟨h, rfl, rfl⟩
  · cases b
    · exact move_false_any n k r 0 w hL (move_in y m d Y M _ h hn h1 h2 h3 h4 hM rfl hr) (Or.inl rfl)
    · by_cases hd : d = ln y m
      · subst hd
        exact move_end_any n k y m Y M r w hL h hn h1 h2 h3 h4 hM (by unfold dm at hr; simpa using hr)
      · refine move_not_any n k r w hL (move_in y m d Y M _ h hn h1 h2 h3 h4 hM rfl ?_) (last_in y m d h hn (by simp [hd]))
        unfold dm at hr ⊢; simpa [hd] using hr
  · exact move_bad_any n k 0 b w hL (move_far y m d h hn hk)
  · exact move_bad_any n k 0 b w hL (move_out h)
end Go.Proofs.YtjijgcgbnmobfaaGreatDoor
