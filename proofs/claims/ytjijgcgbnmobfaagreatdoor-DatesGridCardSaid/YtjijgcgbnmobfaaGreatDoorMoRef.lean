/- The reference of layer 5: Last, End, Shift, Move, month by month. -/
import Derived.Test.YtjijgcgbnmobfaaGreatDoorMoNum
import Derived.Test.YtjijgcgbnmobfaaGreatDoorCShown
namespace Go.Proofs.YtjijgcgbnmobfaaGreatDoor
open Go.RowKit
set_option linter.unusedVariables false

set_option maxHeartbeats 1000000 in
theorem rlast_in (n y m d : Int) (b : Bool) (w : World) (h : may y m d) (hn : nb y m d = n) (hb : decide (d = ln y m) = b) :
    Calls Tryz.prog 20 #[.int .i64 n] w fun e' w' => e' = .returned (.bool b) ∧ Below w.heap.size w w' := by
  have H := Held.start w
  have O1 : Hid (DayIs n y m d 0) := Lib.hid (Or.inl ⟨h, hn, rfl⟩)
  obtain ⟨l, HB⟩ : ∃ l, Hid (ln y m = l) := ⟨_, Lib.hid rfl⟩
  have C1 := Lib.hid (fun v => rlength_any y m v)
  rw [HB.out] at hb C1
  clear h hn
  have hb2 : (d == l) = b := by rw [← hb, Bool.eq_iff_iff]; simp
  subst hb2
  go_enter Tryz.func20, Tryz.ntmps20
  go_wp2_with fail
  (with_reducible refine (rof_any n y m d 0 _ O1.out).mono ?_)
  rintro e w1 ⟨rfl, hb⟩
  replace H := H.below hb
  clear hb
  go_wp2
  replace H := (H.triple (w1.heap.size) (.int .i64 y) (.int .i64 m) (.int .i64 d) 40 rfl)
  have cc0 := H.cell (w1.heap.size) 0 (.int .i64 y) (List.Mem.head _)
  have cc1 := H.cell (w1.heap.size) 1 (.int .i64 m) (List.Mem.tail _ (List.Mem.head _))
  have cc2 := H.cell (w1.heap.size) 2 (.int .i64 d) (List.Mem.tail _ (List.Mem.tail _ (List.Mem.head _)))
  have lc := H.lt (w1.heap.size) 0 (.int .i64 y) (List.Mem.head _)
  have HK := H.old
  clear H
  go_quiet ((go_at_call 32; with_reducible exact quietLeft (C1.out _)))
  go_wp2
  go_ret
  exact ⟨by simp, belowDrewN HK _⟩

set_option maxHeartbeats 1000000 in
theorem rlast_out (n : Int) (w : World) (h : n < 1 ∨ 3652059 < n) :
    Calls Tryz.prog 20 #[.int .i64 n] w fun e' w' => e' = .returned (.bool false) ∧ Below w.heap.size w w' := by
  have H := Held.start w
  have O1 : Hid (DayIs n 0 0 0 3) := Lib.hid (Or.inr ⟨h, rfl, rfl, rfl, rfl⟩)
  clear h
  go_enter Tryz.func20, Tryz.ntmps20
  go_wp2_with fail
  (with_reducible refine (rof_any n 0 0 0 3 _ O1.out).mono ?_)
  rintro e w1 ⟨rfl, hb⟩
  replace H := H.below hb
  clear hb
  go_wp2_with fail
  replace H := (H.triple (w1.heap.size) (.int .i64 0) (.int .i64 0) (.int .i64 0) 40 rfl)
  go_ret
  exact ⟨rfl, H.old⟩

theorem rlast_any (n : Int) (b : Bool) (w : World) (h : LastIs n b) : Calls Tryz.prog 20 #[.int .i64 n] w fun e' w' => e' = .returned (.bool b) ∧ Below w.heap.size w w' := by
  rcases h with ⟨y, m, d, h1, h2, rfl⟩ | ⟨h, rfl⟩
  · exact rlast_in n y m d _ w h1 h2 rfl
  · exact rlast_out n w h

set_option maxHeartbeats 1000000 in
theorem rmove_cut (n k y m d T Y M r : Int) (b l : Bool) (w : World) (h : may y m d) (hn : nb y m d = n) (hT : 12 * y + m + k = T) (k1 : -200000 ≤ k) (k2 : k ≤ 200000) (h1 : 1 ≤ Y) (h2 : Y ≤ 9999) (h3 : 1 ≤ M) (h4 : M ≤ 12) (hM : 12 * Y + M = T) (hl : LastIs n l) (hq : ln Y M < d) (hr : nb Y M (ln Y M) = r) :
    Calls Tryz.prog 17 #[.int .i64 n, .int .i64 k, .bool b] w fun e' w' => e' = .returned (.tuple #[.int .i64 r, .int .i64 0]) ∧ Below w.heap.size w w' := by
  have H := Held.start w
  have O1 : Hid (DayIs n y m d 0) := Lib.hid (Or.inl ⟨h, hn, rfl⟩)
  have d31 : d ≤ 31 := by have := ln_le y m; obtain ⟨-, -, -, -, -, a6⟩ := h; omega
  obtain ⟨q, HQ⟩ : ∃ q, Hid (ln Y M = q) := ⟨_, Lib.hid rfl⟩
  have C1 := Lib.hid (fun v => rlength_is Y M q v HQ.out)
  rw [HQ.out] at hq
  have hl2 := ln_le Y M
  have hl3 := ln_ge Y M h3 h4
  rw [HQ.out] at hl2 hl3
  have N1 : Hid (nN Y M q = r ∧ nE Y M q = 0) := Lib.hid (by
    rw [← hr]; (try rw [HQ.out]); refine n_yes ⟨h1, h2, h3, h4, ?_, ?_⟩ <;> (try rw [HQ.out]) <;> (obtain ⟨-, -, -, -, a5, a6⟩ := h; omega))
  have L1 := Lib.hid hl
  clear hl
  obtain ⟨y1, y2, m1, m2, d1, d2⟩ := h
  clear d2 hn hr
  go_enter Tryz.func17, Tryz.ntmps17
  go_wp2_with fail
  (with_reducible refine (rof_any n y m d 0 _ O1.out).mono ?_)
  rintro e w1 ⟨rfl, hb⟩
  replace H := H.below hb
  clear hb
  go_wp2_with fail
  replace H := (H.triple (w1.heap.size) (.int .i64 y) (.int .i64 m) (.int .i64 d) 40 rfl)
  (with_reducible refine (rlast_any n l _ L1.out).mono ?_)
  rintro e w2 ⟨rfl, hb⟩
  replace H := H.below hb
  clear hb
  have cc0 := H.cell (w1.heap.size) 0 (.int .i64 y) (List.Mem.head _)
  have cc1 := H.cell (w1.heap.size) 1 (.int .i64 m) (List.Mem.tail _ (List.Mem.head _))
  have cc2 := H.cell (w1.heap.size) 2 (.int .i64 d) (List.Mem.tail _ (List.Mem.tail _ (List.Mem.head _)))
  have lc := H.lt (w1.heap.size) 0 (.int .i64 y) (List.Mem.head _)
  have HK := H.old
  clear H
  go_wp2
  go_loop [1, 11, 12] (fun a b c => ∃ j Y' M' : Int, a = .int .i64 j ∧ b = .int .i64 Y' ∧ c = .int .i64 M' ∧ 1 ≤ M' ∧ M' ≤ 12 ∧ -200000 ≤ j ∧ j ≤ 200000 ∧ 12 * Y' + M' + j = T) (fun a _ _ => (intOf a).toNat)
  case atStart => exact ⟨k, y, m, rfl, rfl, rfl, m1, m2, by omega, by omega, by omega⟩
  case round =>
    obtain ⟨j, Y', M', rfl, rfl, rfl, q1, q2, q3, q4, q5⟩ := hrel
    by_cases hj : j > 0
    · by_cases hm : M' + 1 > 12
      · go_wp2
        go_round
        case rel => exact ⟨j - 1, Y' + 1, 1, rfl, rfl, rfl, by omega, by omega, by omega, by omega, by omega⟩
        case measure => simp [intOf]; omega
      · go_wp2
        go_round
        case rel => exact ⟨j - 1, Y', M' + 1, rfl, rfl, rfl, by omega, by omega, by omega, by omega, by omega⟩
        case measure => simp [intOf]; omega
    · go_wp2
      go_loop [1, 11, 12] (fun a b c => ∃ j Y' M' : Int, a = .int .i64 j ∧ b = .int .i64 Y' ∧ c = .int .i64 M' ∧ 1 ≤ M' ∧ M' ≤ 12 ∧ -200000 ≤ j ∧ j ≤ 0 ∧ 12 * Y' + M' + j = T) (fun a _ _ => (-(intOf a)).toNat)
      case atStart => exact ⟨j, Y', M', rfl, rfl, rfl, q1, q2, q3, by omega, q5⟩
      case round =>
        clear hj q1 q2 q3 q4 q5
        obtain ⟨i, V, U, rfl, rfl, rfl, q1, q2, q3, q4, q5⟩ := hrel
        by_cases hj : i < 0
        · by_cases hm : U - 1 < 1
          · go_wp2
            go_round
            case rel => exact ⟨i + 1, V - 1, 12, rfl, rfl, rfl, by omega, by omega, by omega, by omega, by omega⟩
            case measure => simp [intOf]; omega
          · go_wp2
            go_round
            case rel => exact ⟨i + 1, V, U - 1, rfl, rfl, rfl, by omega, by omega, by omega, by omega, by omega⟩
            case measure => simp [intOf]; omega
        · obtain rfl : V = Y := by omega
          obtain rfl : U = M := by omega
          go_wp2_with fail
          (with_reducible refine (C1.out _).mono ?_)
          rintro e w8 ⟨rfl, hb8⟩
          have c0 := keep hb8 (cell_lt cc0) cc0
          have c1 := keep hb8 (cell_lt cc1) cc1
          have c2 := keep hb8 (cell_lt cc2) cc2
          go_wp2_with fail
          (with_reducible refine (rnumber_is V U q r 0 _ N1.out).mono ?_)
          rintro e w9 ⟨rfl, hb9⟩
          go_wp2
          go_ret2
          exact ⟨rfl, (HK.trans (hb8.mono HK.size)).trans (hb9.mono (Nat.le_trans HK.size hb8.size))⟩

set_option maxHeartbeats 1000000 in
theorem rmove_stay (n k y m d T Y M r : Int) (w : World) (h : may y m d) (hn : nb y m d = n) (hT : 12 * y + m + k = T) (k1 : -200000 ≤ k) (k2 : k ≤ 200000) (h1 : 1 ≤ Y) (h2 : Y ≤ 9999) (h3 : 1 ≤ M) (h4 : M ≤ 12) (hM : 12 * Y + M = T) (hl : LastIs n true) (hq : d ≤ ln Y M) (hr : nb Y M (ln Y M) = r) :
    Calls Tryz.prog 17 #[.int .i64 n, .int .i64 k, .bool true] w fun e' w' => e' = .returned (.tuple #[.int .i64 r, .int .i64 0]) ∧ Below w.heap.size w w' := by
  have H := Held.start w
  have O1 : Hid (DayIs n y m d 0) := Lib.hid (Or.inl ⟨h, hn, rfl⟩)
  have d31 : d ≤ 31 := by have := ln_le y m; obtain ⟨-, -, -, -, -, a6⟩ := h; omega
  obtain ⟨q, HQ⟩ : ∃ q, Hid (ln Y M = q) := ⟨_, Lib.hid rfl⟩
  have C1 := Lib.hid (fun v => rlength_is Y M q v HQ.out)
  rw [HQ.out] at hq
  have hl2 := ln_le Y M
  have hl3 := ln_ge Y M h3 h4
  rw [HQ.out] at hl2 hl3
  have N1 : Hid (nN Y M q = r ∧ nE Y M q = 0) := Lib.hid (by
    rw [← hr]; (try rw [HQ.out]); refine n_yes ⟨h1, h2, h3, h4, ?_, ?_⟩ <;> (try rw [HQ.out]) <;> (obtain ⟨-, -, -, -, a5, a6⟩ := h; omega))
  have L1 := Lib.hid hl
  clear hl
  obtain ⟨y1, y2, m1, m2, d1, d2⟩ := h
  clear d2 hn hr
  go_enter Tryz.func17, Tryz.ntmps17
  go_wp2_with fail
  (with_reducible refine (rof_any n y m d 0 _ O1.out).mono ?_)
  rintro e w1 ⟨rfl, hb⟩
  replace H := H.below hb
  clear hb
  go_wp2_with fail
  replace H := (H.triple (w1.heap.size) (.int .i64 y) (.int .i64 m) (.int .i64 d) 40 rfl)
  (with_reducible refine (rlast_any n true _ L1.out).mono ?_)
  rintro e w2 ⟨rfl, hb⟩
  replace H := H.below hb
  clear hb
  have cc0 := H.cell (w1.heap.size) 0 (.int .i64 y) (List.Mem.head _)
  have cc1 := H.cell (w1.heap.size) 1 (.int .i64 m) (List.Mem.tail _ (List.Mem.head _))
  have cc2 := H.cell (w1.heap.size) 2 (.int .i64 d) (List.Mem.tail _ (List.Mem.tail _ (List.Mem.head _)))
  have lc := H.lt (w1.heap.size) 0 (.int .i64 y) (List.Mem.head _)
  have HK := H.old
  clear H
  go_wp2
  go_loop [1, 11, 12] (fun a b c => ∃ j Y' M' : Int, a = .int .i64 j ∧ b = .int .i64 Y' ∧ c = .int .i64 M' ∧ 1 ≤ M' ∧ M' ≤ 12 ∧ -200000 ≤ j ∧ j ≤ 200000 ∧ 12 * Y' + M' + j = T) (fun a _ _ => (intOf a).toNat)
  case atStart => exact ⟨k, y, m, rfl, rfl, rfl, m1, m2, by omega, by omega, by omega⟩
  case round =>
    obtain ⟨j, Y', M', rfl, rfl, rfl, q1, q2, q3, q4, q5⟩ := hrel
    by_cases hj : j > 0
    · by_cases hm : M' + 1 > 12
      · go_wp2
        go_round
        case rel => exact ⟨j - 1, Y' + 1, 1, rfl, rfl, rfl, by omega, by omega, by omega, by omega, by omega⟩
        case measure => simp [intOf]; omega
      · go_wp2
        go_round
        case rel => exact ⟨j - 1, Y', M' + 1, rfl, rfl, rfl, by omega, by omega, by omega, by omega, by omega⟩
        case measure => simp [intOf]; omega
    · go_wp2
      go_loop [1, 11, 12] (fun a b c => ∃ j Y' M' : Int, a = .int .i64 j ∧ b = .int .i64 Y' ∧ c = .int .i64 M' ∧ 1 ≤ M' ∧ M' ≤ 12 ∧ -200000 ≤ j ∧ j ≤ 0 ∧ 12 * Y' + M' + j = T) (fun a _ _ => (-(intOf a)).toNat)
      case atStart => exact ⟨j, Y', M', rfl, rfl, rfl, q1, q2, q3, by omega, q5⟩
      case round =>
        clear hj q1 q2 q3 q4 q5
        obtain ⟨i, V, U, rfl, rfl, rfl, q1, q2, q3, q4, q5⟩ := hrel
        by_cases hj : i < 0
        · by_cases hm : U - 1 < 1
          · go_wp2
            go_round
            case rel => exact ⟨i + 1, V - 1, 12, rfl, rfl, rfl, by omega, by omega, by omega, by omega, by omega⟩
            case measure => simp [intOf]; omega
          · go_wp2
            go_round
            case rel => exact ⟨i + 1, V, U - 1, rfl, rfl, rfl, by omega, by omega, by omega, by omega, by omega⟩
            case measure => simp [intOf]; omega
        · obtain rfl : V = Y := by omega
          obtain rfl : U = M := by omega
          go_wp2_with fail
          (with_reducible refine (C1.out _).mono ?_)
          rintro e w8 ⟨rfl, hb8⟩
          have c0 := keep hb8 (cell_lt cc0) cc0
          have c1 := keep hb8 (cell_lt cc1) cc1
          have c2 := keep hb8 (cell_lt cc2) cc2
          go_wp2_with fail
          (with_reducible refine (rnumber_is V U q r 0 _ N1.out).mono ?_)
          rintro e w9 ⟨rfl, hb9⟩
          go_wp2
          go_ret2
          exact ⟨rfl, (HK.trans (hb8.mono HK.size)).trans (hb9.mono (Nat.le_trans HK.size hb8.size))⟩

set_option maxHeartbeats 1000000 in
theorem rmove_same0 (n k y m d T Y M r : Int) (l : Bool) (w : World) (h : may y m d) (hn : nb y m d = n) (hT : 12 * y + m + k = T) (k1 : -200000 ≤ k) (k2 : k ≤ 200000) (h1 : 1 ≤ Y) (h2 : Y ≤ 9999) (h3 : 1 ≤ M) (h4 : M ≤ 12) (hM : 12 * Y + M = T) (hl : LastIs n l) (hq : d ≤ ln Y M) (hr : nb Y M d = r) :
    Calls Tryz.prog 17 #[.int .i64 n, .int .i64 k, .bool false] w fun e' w' => e' = .returned (.tuple #[.int .i64 r, .int .i64 0]) ∧ Below w.heap.size w w' := by
  have H := Held.start w
  have O1 : Hid (DayIs n y m d 0) := Lib.hid (Or.inl ⟨h, hn, rfl⟩)
  have d31 : d ≤ 31 := by have := ln_le y m; obtain ⟨-, -, -, -, -, a6⟩ := h; omega
  obtain ⟨q, HQ⟩ : ∃ q, Hid (ln Y M = q) := ⟨_, Lib.hid rfl⟩
  have C1 := Lib.hid (fun v => rlength_is Y M q v HQ.out)
  rw [HQ.out] at hq
  have hl2 := ln_le Y M
  have hl3 := ln_ge Y M h3 h4
  rw [HQ.out] at hl2 hl3
  have N1 : Hid (nN Y M d = r ∧ nE Y M d = 0) := Lib.hid (by
    rw [← hr]; (try rw [HQ.out]); refine n_yes ⟨h1, h2, h3, h4, ?_, ?_⟩ <;> (try rw [HQ.out]) <;> (obtain ⟨-, -, -, -, a5, a6⟩ := h; omega))
  have L1 := Lib.hid hl
  clear hl
  obtain ⟨y1, y2, m1, m2, d1, d2⟩ := h
  clear d2 hn hr
  go_enter Tryz.func17, Tryz.ntmps17
  go_wp2_with fail
  (with_reducible refine (rof_any n y m d 0 _ O1.out).mono ?_)
  rintro e w1 ⟨rfl, hb⟩
  replace H := H.below hb
  clear hb
  go_wp2_with fail
  replace H := (H.triple (w1.heap.size) (.int .i64 y) (.int .i64 m) (.int .i64 d) 40 rfl)
  (with_reducible refine (rlast_any n l _ L1.out).mono ?_)
  rintro e w2 ⟨rfl, hb⟩
  replace H := H.below hb
  clear hb
  have cc0 := H.cell (w1.heap.size) 0 (.int .i64 y) (List.Mem.head _)
  have cc1 := H.cell (w1.heap.size) 1 (.int .i64 m) (List.Mem.tail _ (List.Mem.head _))
  have cc2 := H.cell (w1.heap.size) 2 (.int .i64 d) (List.Mem.tail _ (List.Mem.tail _ (List.Mem.head _)))
  have lc := H.lt (w1.heap.size) 0 (.int .i64 y) (List.Mem.head _)
  have HK := H.old
  clear H
  go_wp2
  go_loop [1, 11, 12] (fun a b c => ∃ j Y' M' : Int, a = .int .i64 j ∧ b = .int .i64 Y' ∧ c = .int .i64 M' ∧ 1 ≤ M' ∧ M' ≤ 12 ∧ -200000 ≤ j ∧ j ≤ 200000 ∧ 12 * Y' + M' + j = T) (fun a _ _ => (intOf a).toNat)
  case atStart => exact ⟨k, y, m, rfl, rfl, rfl, m1, m2, by omega, by omega, by omega⟩
  case round =>
    obtain ⟨j, Y', M', rfl, rfl, rfl, q1, q2, q3, q4, q5⟩ := hrel
    by_cases hj : j > 0
    · by_cases hm : M' + 1 > 12
      · go_wp2
        go_round
        case rel => exact ⟨j - 1, Y' + 1, 1, rfl, rfl, rfl, by omega, by omega, by omega, by omega, by omega⟩
        case measure => simp [intOf]; omega
      · go_wp2
        go_round
        case rel => exact ⟨j - 1, Y', M' + 1, rfl, rfl, rfl, by omega, by omega, by omega, by omega, by omega⟩
        case measure => simp [intOf]; omega
    · go_wp2
      go_loop [1, 11, 12] (fun a b c => ∃ j Y' M' : Int, a = .int .i64 j ∧ b = .int .i64 Y' ∧ c = .int .i64 M' ∧ 1 ≤ M' ∧ M' ≤ 12 ∧ -200000 ≤ j ∧ j ≤ 0 ∧ 12 * Y' + M' + j = T) (fun a _ _ => (-(intOf a)).toNat)
      case atStart => exact ⟨j, Y', M', rfl, rfl, rfl, q1, q2, q3, by omega, q5⟩
      case round =>
        clear hj q1 q2 q3 q4 q5
        obtain ⟨i, V, U, rfl, rfl, rfl, q1, q2, q3, q4, q5⟩ := hrel
        by_cases hj : i < 0
        · by_cases hm : U - 1 < 1
          · go_wp2
            go_round
            case rel => exact ⟨i + 1, V - 1, 12, rfl, rfl, rfl, by omega, by omega, by omega, by omega, by omega⟩
            case measure => simp [intOf]; omega
          · go_wp2
            go_round
            case rel => exact ⟨i + 1, V, U - 1, rfl, rfl, rfl, by omega, by omega, by omega, by omega, by omega⟩
            case measure => simp [intOf]; omega
        · obtain rfl : V = Y := by omega
          obtain rfl : U = M := by omega
          go_wp2_with fail
          (with_reducible refine (C1.out _).mono ?_)
          rintro e w8 ⟨rfl, hb8⟩
          have c0 := keep hb8 (cell_lt cc0) cc0
          have c1 := keep hb8 (cell_lt cc1) cc1
          have c2 := keep hb8 (cell_lt cc2) cc2
          go_wp2_with fail
          (with_reducible refine (rnumber_is V U d r 0 _ N1.out).mono ?_)
          rintro e w9 ⟨rfl, hb9⟩
          go_wp2
          go_ret2
          exact ⟨rfl, (HK.trans (hb8.mono HK.size)).trans (hb9.mono (Nat.le_trans HK.size hb8.size))⟩

set_option maxHeartbeats 1000000 in
theorem rmove_same1 (n k y m d T Y M r : Int) (w : World) (h : may y m d) (hn : nb y m d = n) (hT : 12 * y + m + k = T) (k1 : -200000 ≤ k) (k2 : k ≤ 200000) (h1 : 1 ≤ Y) (h2 : Y ≤ 9999) (h3 : 1 ≤ M) (h4 : M ≤ 12) (hM : 12 * Y + M = T) (hl : LastIs n false) (hq : d ≤ ln Y M) (hr : nb Y M d = r) :
    Calls Tryz.prog 17 #[.int .i64 n, .int .i64 k, .bool true] w fun e' w' => e' = .returned (.tuple #[.int .i64 r, .int .i64 0]) ∧ Below w.heap.size w w' := by
  have H := Held.start w
  have O1 : Hid (DayIs n y m d 0) := Lib.hid (Or.inl ⟨h, hn, rfl⟩)
  have d31 : d ≤ 31 := by have := ln_le y m; obtain ⟨-, -, -, -, -, a6⟩ := h; omega
  obtain ⟨q, HQ⟩ : ∃ q, Hid (ln Y M = q) := ⟨_, Lib.hid rfl⟩
  have C1 := Lib.hid (fun v => rlength_is Y M q v HQ.out)
  rw [HQ.out] at hq
  have hl2 := ln_le Y M
  have hl3 := ln_ge Y M h3 h4
  rw [HQ.out] at hl2 hl3
  have N1 : Hid (nN Y M d = r ∧ nE Y M d = 0) := Lib.hid (by
    rw [← hr]; (try rw [HQ.out]); refine n_yes ⟨h1, h2, h3, h4, ?_, ?_⟩ <;> (try rw [HQ.out]) <;> (obtain ⟨-, -, -, -, a5, a6⟩ := h; omega))
  have L1 := Lib.hid hl
  clear hl
  obtain ⟨y1, y2, m1, m2, d1, d2⟩ := h
  clear d2 hn hr
  go_enter Tryz.func17, Tryz.ntmps17
  go_wp2_with fail
  (with_reducible refine (rof_any n y m d 0 _ O1.out).mono ?_)
  rintro e w1 ⟨rfl, hb⟩
  replace H := H.below hb
  clear hb
  go_wp2_with fail
  replace H := (H.triple (w1.heap.size) (.int .i64 y) (.int .i64 m) (.int .i64 d) 40 rfl)
  (with_reducible refine (rlast_any n false _ L1.out).mono ?_)
  rintro e w2 ⟨rfl, hb⟩
  replace H := H.below hb
  clear hb
  have cc0 := H.cell (w1.heap.size) 0 (.int .i64 y) (List.Mem.head _)
  have cc1 := H.cell (w1.heap.size) 1 (.int .i64 m) (List.Mem.tail _ (List.Mem.head _))
  have cc2 := H.cell (w1.heap.size) 2 (.int .i64 d) (List.Mem.tail _ (List.Mem.tail _ (List.Mem.head _)))
  have lc := H.lt (w1.heap.size) 0 (.int .i64 y) (List.Mem.head _)
  have HK := H.old
  clear H
  go_wp2
  go_loop [1, 11, 12] (fun a b c => ∃ j Y' M' : Int, a = .int .i64 j ∧ b = .int .i64 Y' ∧ c = .int .i64 M' ∧ 1 ≤ M' ∧ M' ≤ 12 ∧ -200000 ≤ j ∧ j ≤ 200000 ∧ 12 * Y' + M' + j = T) (fun a _ _ => (intOf a).toNat)
  case atStart => exact ⟨k, y, m, rfl, rfl, rfl, m1, m2, by omega, by omega, by omega⟩
  case round =>
    obtain ⟨j, Y', M', rfl, rfl, rfl, q1, q2, q3, q4, q5⟩ := hrel
    by_cases hj : j > 0
    · by_cases hm : M' + 1 > 12
      · go_wp2
        go_round
        case rel => exact ⟨j - 1, Y' + 1, 1, rfl, rfl, rfl, by omega, by omega, by omega, by omega, by omega⟩
        case measure => simp [intOf]; omega
      · go_wp2
        go_round
        case rel => exact ⟨j - 1, Y', M' + 1, rfl, rfl, rfl, by omega, by omega, by omega, by omega, by omega⟩
        case measure => simp [intOf]; omega
    · go_wp2
      go_loop [1, 11, 12] (fun a b c => ∃ j Y' M' : Int, a = .int .i64 j ∧ b = .int .i64 Y' ∧ c = .int .i64 M' ∧ 1 ≤ M' ∧ M' ≤ 12 ∧ -200000 ≤ j ∧ j ≤ 0 ∧ 12 * Y' + M' + j = T) (fun a _ _ => (-(intOf a)).toNat)
      case atStart => exact ⟨j, Y', M', rfl, rfl, rfl, q1, q2, q3, by omega, q5⟩
      case round =>
        clear hj q1 q2 q3 q4 q5
        obtain ⟨i, V, U, rfl, rfl, rfl, q1, q2, q3, q4, q5⟩ := hrel
        by_cases hj : i < 0
        · by_cases hm : U - 1 < 1
          · go_wp2
            go_round
            case rel => exact ⟨i + 1, V - 1, 12, rfl, rfl, rfl, by omega, by omega, by omega, by omega, by omega⟩
            case measure => simp [intOf]; omega
          · go_wp2
            go_round
            case rel => exact ⟨i + 1, V, U - 1, rfl, rfl, rfl, by omega, by omega, by omega, by omega, by omega⟩
            case measure => simp [intOf]; omega
        · obtain rfl : V = Y := by omega
          obtain rfl : U = M := by omega
          go_wp2_with fail
          (with_reducible refine (C1.out _).mono ?_)
          rintro e w8 ⟨rfl, hb8⟩
          have c0 := keep hb8 (cell_lt cc0) cc0
          have c1 := keep hb8 (cell_lt cc1) cc1
          have c2 := keep hb8 (cell_lt cc2) cc2
          go_wp2_with fail
          (with_reducible refine (rnumber_is V U d r 0 _ N1.out).mono ?_)
          rintro e w9 ⟨rfl, hb9⟩
          go_wp2
          go_ret2
          exact ⟨rfl, (HK.trans (hb8.mono HK.size)).trans (hb9.mono (Nat.le_trans HK.size hb8.size))⟩

set_option maxHeartbeats 1000000 in
theorem rmove_far (n k y m d T : Int) (w : World) (h : may y m d) (hn : nb y m d = n) (hT : 12 * y + m + k = T) (k1 : -200000 ≤ k) (k2 : k ≤ 200000) (b l : Bool) (hl : LastIs n l) (hf : T < 13 ∨ 120000 < T) :
    Calls Tryz.prog 17 #[.int .i64 n, .int .i64 k, .bool b] w fun e' w' => e' = .returned (.tuple #[.int .i64 0, .int .i64 3]) ∧ Below w.heap.size w w' := by
  have H := Held.start w
  have O1 : Hid (DayIs n y m d 0) := Lib.hid (Or.inl ⟨h, hn, rfl⟩)
  have L1 := Lib.hid hl
  obtain ⟨y1, y2, m1, m2, d1, d2⟩ := h
  clear d2 hn hl
  go_enter Tryz.func17, Tryz.ntmps17
  go_wp2_with fail
  (with_reducible refine (rof_any n y m d 0 _ O1.out).mono ?_)
  rintro e w1 ⟨rfl, hb⟩
  replace H := H.below hb
  clear hb
  go_wp2_with fail
  replace H := (H.triple (w1.heap.size) (.int .i64 y) (.int .i64 m) (.int .i64 d) 40 rfl)
  (with_reducible refine (rlast_any n l _ L1.out).mono ?_)
  rintro e w2 ⟨rfl, hb⟩
  replace H := H.below hb
  clear hb
  have cc0 := H.cell (w1.heap.size) 0 (.int .i64 y) (List.Mem.head _)
  have cc1 := H.cell (w1.heap.size) 1 (.int .i64 m) (List.Mem.tail _ (List.Mem.head _))
  have cc2 := H.cell (w1.heap.size) 2 (.int .i64 d) (List.Mem.tail _ (List.Mem.tail _ (List.Mem.head _)))
  have lc := H.lt (w1.heap.size) 0 (.int .i64 y) (List.Mem.head _)
  have HK := H.old
  clear H
  go_wp2
  go_loop [1, 11, 12] (fun a b c => ∃ j Y' M' : Int, a = .int .i64 j ∧ b = .int .i64 Y' ∧ c = .int .i64 M' ∧ 1 ≤ M' ∧ M' ≤ 12 ∧ -200000 ≤ j ∧ j ≤ 200000 ∧ 12 * Y' + M' + j = T) (fun a _ _ => (intOf a).toNat)
  case atStart => exact ⟨k, y, m, rfl, rfl, rfl, m1, m2, by omega, by omega, by omega⟩
  case round =>
    obtain ⟨j, Y', M', rfl, rfl, rfl, q1, q2, q3, q4, q5⟩ := hrel
    by_cases hj : j > 0
    · by_cases hm : M' + 1 > 12
      · go_wp2
        go_round
        case rel => exact ⟨j - 1, Y' + 1, 1, rfl, rfl, rfl, by omega, by omega, by omega, by omega, by omega⟩
        case measure => simp [intOf]; omega
      · go_wp2
        go_round
        case rel => exact ⟨j - 1, Y', M' + 1, rfl, rfl, rfl, by omega, by omega, by omega, by omega, by omega⟩
        case measure => simp [intOf]; omega
    · go_wp2
      go_loop [1, 11, 12] (fun a b c => ∃ j Y' M' : Int, a = .int .i64 j ∧ b = .int .i64 Y' ∧ c = .int .i64 M' ∧ 1 ≤ M' ∧ M' ≤ 12 ∧ -200000 ≤ j ∧ j ≤ 0 ∧ 12 * Y' + M' + j = T) (fun a _ _ => (-(intOf a)).toNat)
      case atStart => exact ⟨j, Y', M', rfl, rfl, rfl, q1, q2, q3, by omega, q5⟩
      case round =>
        clear hj q1 q2 q3 q4 q5
        obtain ⟨i, V, U, rfl, rfl, rfl, q1, q2, q3, q4, q5⟩ := hrel
        by_cases hj : i < 0
        · by_cases hm : U - 1 < 1
          · go_wp2
            go_round
            case rel => exact ⟨i + 1, V - 1, 12, rfl, rfl, rfl, by omega, by omega, by omega, by omega, by omega⟩
            case measure => simp [intOf]; omega
          · go_wp2
            go_round
            case rel => exact ⟨i + 1, V, U - 1, rfl, rfl, rfl, by omega, by omega, by omega, by omega, by omega⟩
            case measure => simp [intOf]; omega
        · by_cases hy : V < 1
          · go_wp2
            go_ret2
            exact ⟨rfl, HK⟩
          · have hy2 : V > 9999 := by omega
            go_wp2
            go_ret2
            exact ⟨rfl, HK⟩

set_option maxHeartbeats 1000000 in
theorem rmove_big (n k y m d : Int) (b : Bool) (w : World) (h : may y m d) (hn : nb y m d = n) (hk : k > 200000) :
    Calls Tryz.prog 17 #[.int .i64 n, .int .i64 k, .bool b] w fun e' w' => e' = .returned (.tuple #[.int .i64 0, .int .i64 3]) ∧ Below w.heap.size w w' := by
  have H := Held.start w
  have O1 : Hid (DayIs n y m d 0) := Lib.hid (Or.inl ⟨h, hn, rfl⟩)
  clear h hn
  go_enter Tryz.func17, Tryz.ntmps17
  go_wp2_with fail
  (with_reducible refine (rof_any n y m d 0 _ O1.out).mono ?_)
  rintro e w1 ⟨rfl, hb⟩
  replace H := H.below hb
  clear hb
  go_wp2_with fail
  replace H := (H.triple (w1.heap.size) (.int .i64 y) (.int .i64 m) (.int .i64 d) 40 rfl)
  go_ret2
  exact ⟨rfl, H.old⟩

set_option maxHeartbeats 1000000 in
theorem rmove_less (n k y m d : Int) (b : Bool) (w : World) (h : may y m d) (hn : nb y m d = n) (hk : k < -200000) :
    Calls Tryz.prog 17 #[.int .i64 n, .int .i64 k, .bool b] w fun e' w' => e' = .returned (.tuple #[.int .i64 0, .int .i64 3]) ∧ Below w.heap.size w w' := by
  have H := Held.start w
  have O1 : Hid (DayIs n y m d 0) := Lib.hid (Or.inl ⟨h, hn, rfl⟩)
  clear h hn
  go_enter Tryz.func17, Tryz.ntmps17
  go_wp2_with fail
  (with_reducible refine (rof_any n y m d 0 _ O1.out).mono ?_)
  rintro e w1 ⟨rfl, hb⟩
  replace H := H.below hb
  clear hb
  go_wp2_with fail
  replace H := (H.triple (w1.heap.size) (.int .i64 y) (.int .i64 m) (.int .i64 d) 40 rfl)
  go_ret2
  exact ⟨rfl, H.old⟩

set_option maxHeartbeats 1000000 in
theorem rmove_out (n k : Int) (b : Bool) (w : World) (h : n < 1 ∨ 3652059 < n) :
    Calls Tryz.prog 17 #[.int .i64 n, .int .i64 k, .bool b] w fun e' w' => e' = .returned (.tuple #[.int .i64 0, .int .i64 3]) ∧ Below w.heap.size w w' := by
  have H := Held.start w
  have O1 : Hid (DayIs n 0 0 0 3) := Lib.hid (Or.inr ⟨h, rfl, rfl, rfl, rfl⟩)
  clear h
  go_enter Tryz.func17, Tryz.ntmps17
  go_wp2_with fail
  (with_reducible refine (rof_any n 0 0 0 3 _ O1.out).mono ?_)
  rintro e w1 ⟨rfl, hb⟩
  replace H := H.below hb
  clear hb
  go_wp2_with fail
  replace H := (H.triple (w1.heap.size) (.int .i64 0) (.int .i64 0) (.int .i64 0) 40 rfl)
  go_ret2
  exact ⟨rfl, H.old⟩

theorem rmove_any (n k r e : Int) (b : Bool) (w : World) (h : MoveIs n k b r e) : Calls Tryz.prog 17 #[.int .i64 n, .int .i64 k, .bool b] w fun e' w' => e' = .returned (.tuple #[.int .i64 r, .int .i64 e]) ∧ Below w.heap.size w w' := by
  rcases h with ⟨y, m, d, Y, M, h, hn, h1, h2, h3, h4, hM, hr, rfl⟩ | ⟨⟨y, m, d, h, hn, hk⟩, rfl, rfl⟩ | ⟨h, rfl, rfl⟩
  · have h' := h
    obtain ⟨y1, y2, m1, m2, d1, d2⟩ := h'
    by_cases hq : ln Y M < d
    · refine rmove_cut n k y m d _ Y M r b _ w h hn hM.symm (by omega) (by omega) h1 h2 h3 h4 rfl (last_in y m d h hn rfl) hq ?_
      unfold dm at hr
      split at hr
      · exact hr
      · rw [Int.min_eq_right (by omega)] at hr; exact hr
    · cases b
      · refine rmove_same0 n k y m d _ Y M r _ w h hn hM.symm (by omega) (by omega) h1 h2 h3 h4 rfl (last_in y m d h hn rfl) (by omega) ?_
        unfold dm at hr
        rw [if_neg (by simp), Int.min_eq_left (by omega)] at hr; exact hr
      · by_cases hd : d = ln y m
        · refine rmove_stay n k y m d _ Y M r w h hn hM.symm (by omega) (by omega) h1 h2 h3 h4 rfl (last_in y m d h hn (by simpa using hd)) (by omega) ?_
          unfold dm at hr
          rw [if_pos ⟨rfl, hd⟩] at hr; exact hr
        · refine rmove_same1 n k y m d _ Y M r w h hn hM.symm (by omega) (by omega) h1 h2 h3 h4 rfl (last_in y m d h hn (by simpa using hd)) (by omega) ?_
          unfold dm at hr
          rw [if_neg (by simp [hd]), Int.min_eq_left (by omega)] at hr; exact hr
  · by_cases k1 : k > 200000
    · exact rmove_big n k y m d b w h hn k1
    · by_cases k2 : k < -200000
      · exact rmove_less n k y m d b w h hn k2
      · exact rmove_far n k y m d _ w h hn rfl (by omega) (by omega) b _ (last_in y m d h hn rfl) hk
  · exact rmove_out n k b w h

theorem rshift_any (n k r e : Int) (w : World) (h : MoveIs n k false r e) : Calls Tryz.prog 19 #[.int .i64 n, .int .i64 k] w fun e' w' => e' = .returned (.tuple #[.int .i64 r, .int .i64 e]) ∧ Below w.heap.size w w' := by
  have M1 := Lib.hid h
  clear h
  go_enter Tryz.func19, Tryz.ntmps19
  go_wp2_with fail
  (with_reducible refine (rmove_any n k r e false _ M1.out).mono ?_)
  rintro e w1 ⟨rfl, hb⟩
  go_wp2
  go_ret2
  exact ⟨rfl, hb⟩
end Go.Proofs.YtjijgcgbnmobfaaGreatDoor
