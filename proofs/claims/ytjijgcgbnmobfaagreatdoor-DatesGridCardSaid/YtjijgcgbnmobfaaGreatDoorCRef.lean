/- The reference of layer 4: leap years, lengths of months, which days may be, the days ahead of a year, numbers, days of numbers, days of the week. -/
import Derived.Test.YtjijgcgbnmobfaaGreatDoorCivilB
namespace Go.Proofs.YtjijgcgbnmobfaaGreatDoor
open Go.RowKit
set_option linter.unusedVariables false
set_option linter.unusedSimpArgs false

theorem rleap_any (y : Int) (w : World) : Calls Tryz.prog 46 #[.int .i64 y] w fun e w' => e = .returned (.bool (lp y)) ∧ w = w' := by
  have b1 := tmod_bd y 4 (by decide)
  have b2 := tmod_bd y 100 (by decide)
  have b3 := tmod_bd y 400 (by decide)
  have e1 := tmod0 y 4
  have e2 := tmod0 y 100
  have e3 := tmod0 y 400
  obtain ⟨b, hb⟩ : ∃ b, lp y = b := ⟨_, rfl⟩
  have hl := lp_iff y
  rw [hb] at hl ⊢
  go_enter Tryz.func46, Tryz.ntmps46
  go_wp2
  all_goals (go_ret; refine ⟨retB ?_, rfl⟩; rw [Bool.eq_iff_iff, hl]; (try simp only [beq_iff_eq, beq_eq_false_iff_ne, ne_eq] at *); (try simp only [Bool.or_eq_true, Bool.and_eq_true, beq_iff_eq, bne_iff_ne, ne_eq, true_iff, Bool.false_eq_true, false_iff]); omega)

set_option maxHeartbeats 1000000 in
theorem rlength_any (y m : Int) (w : World) : Calls Tryz.prog 32 #[.int .i64 y, .int .i64 m] w fun e w' => e = .returned (.int .i64 (ln y m)) ∧ w = w' := by
  by_cases h : m < 1 ∨ 12 < m
  · rw [ln_out y m h]
    have t1 : (m == 1) = false := beq_eq_false_iff_ne.2 (by omega)
    have t2 : (m == 2) = false := beq_eq_false_iff_ne.2 (by omega)
    have t3 : (m == 3) = false := beq_eq_false_iff_ne.2 (by omega)
    have t4 : (m == 4) = false := beq_eq_false_iff_ne.2 (by omega)
    have t5 : (m == 5) = false := beq_eq_false_iff_ne.2 (by omega)
    have t6 : (m == 6) = false := beq_eq_false_iff_ne.2 (by omega)
    have t7 : (m == 7) = false := beq_eq_false_iff_ne.2 (by omega)
    have t8 : (m == 8) = false := beq_eq_false_iff_ne.2 (by omega)
    have t9 : (m == 9) = false := beq_eq_false_iff_ne.2 (by omega)
    have ta : (m == 10) = false := beq_eq_false_iff_ne.2 (by omega)
    have tb : (m == 11) = false := beq_eq_false_iff_ne.2 (by omega)
    have tc : (m == 12) = false := beq_eq_false_iff_ne.2 (by omega)
    clear h
    go_enter Tryz.func32, Tryz.ntmps32
    go_wp2
    go_ret
    exact ⟨rfl, rfl⟩
  · by_cases h2 : m = 2
    · subst h2
      obtain ⟨b, hb⟩ : ∃ b, lp y = b := ⟨_, rfl⟩
      have C := rleap_any y
      rw [hb] at C
      have hl : ln y 2 = if b = true then 29 else 28 := by unfold ln l0; rw [hb]; simp
      rw [hl]
      clear hl h
      have CC := Lib.hid C
      clear C
      go_enter Tryz.func32, Tryz.ntmps32
      go_wp2_with fail
      (with_reducible refine (CC.out _).mono ?_)
      rintro e w1 ⟨rfl, rfl⟩
      cases b
      · go_wp2
        go_ret
        exact ⟨rfl, rfl⟩
      · go_wp2
        go_ret
        exact ⟨rfl, rfl⟩
    · have hm : m = 1 ∨ m = 3 ∨ m = 4 ∨ m = 5 ∨ m = 6 ∨ m = 7 ∨ m = 8 ∨ m = 9 ∨ m = 10 ∨ m = 11 ∨ m = 12 := by omega
      have hl : ln y m = l0 m := by unfold ln; rw [if_neg (by omega)]
      rw [hl]
      clear h h2 hl
      rcases hm with rfl | rfl | rfl | rfl | rfl | rfl | rfl | rfl | rfl | rfl | rfl
      all_goals
        go_enter Tryz.func32, Tryz.ntmps32
        go_wp2
        go_ret
        exact ⟨rfl, rfl⟩

set_option maxHeartbeats 1000000 in
theorem rmay_any (y m d : Int) (w : World) : Calls Tryz.prog 47 #[.agg #[.int .i64 y, .int .i64 m, .int .i64 d]] w fun e w' => e = .returned (.bool (mb y m d)) ∧ Below w.heap.size w w' := by
  have D : ∀ w : World, Below w.heap.size w (w.alloc (.cells #[.int .i64 y, .int .i64 m, .int .i64 d] 40)) := fun w => (Below.refl _ _).alloc (Nat.le_refl _) _
  by_cases h : y < 1 ∨ 9999 < y ∨ m < 1 ∨ 12 < m ∨ d < 1
  · have hm : mb y m d = false := by unfold mb; rw [decide_eq_false_iff_not]; omega
    rw [hm]
    go_enter Tryz.func47, Tryz.ntmps47
    go_wp2
    all_goals first | (exfalso; omega) | skip
    all_goals (go_ret; exact ⟨rfl, D _⟩)
  · have y1 : 1 ≤ y := by omega
    have y2 : y ≤ 9999 := by omega
    have m1 : 1 ≤ m := by omega
    have m2 : m ≤ 12 := by omega
    have d1 : 1 ≤ d := by omega
    have C := Lib.hid (fun v => rlength_any y m v)
    obtain ⟨l, HB⟩ : ∃ l, Hid (ln y m = l) := ⟨_, Lib.hid rfl⟩
    have hm : mb y m d = decide (d ≤ l) := by
      rw [← HB.out]; unfold mb; rw [decide_eq_decide]
      exact ⟨fun h => h.2.2.2.2.2, fun h => ⟨y1, y2, m1, m2, d1, h⟩⟩
    rw [hm]
    rw [HB.out] at C
    clear h hm
    go_enter Tryz.func47, Tryz.ntmps47
    go_wp2_with fail
    (with_reducible refine (C.out _).mono ?_)
    rintro e w1 ⟨rfl, rfl⟩
    go_wp2
    go_ret
    exact ⟨rfl, D _⟩

set_option maxHeartbeats 1000000 in
theorem rahead_any (y : Int) (w : World) (h1 : 1 ≤ y) (h2 : y ≤ 10000) : Calls Tryz.prog 34 #[.int .i64 y] w fun e w' => e = .returned (.int .i64 (ah y)) ∧ w = w' := by
  have C := Lib.hid (fun k w => rleap_any k w)
  go_enter Tryz.func34, Tryz.ntmps34
  go_wp2
  go_loop [4, 5] (fun n i => ∃ k : Int, 1 ≤ k ∧ k ≤ y ∧ i = .int .i64 k ∧ n = .int .i64 (ah k)) (fun _ i => (y - intOf i).toNat)
  case atStart => exact ⟨400 * ((y - 1) / 400) + 1, by omega, by omega, rfl, by unfold ah; simp only [Value.int.injEq, true_and]; omega⟩
  case round =>
    obtain ⟨k, k1, k2, rfl, rfl⟩ := hrel
    by_cases hk : k < y
    · have st := Lib.hid (ah_step k)
      have u := ah_bd k k1 (by omega)
      generalize ah k = A at *
      unfold yl at st
      go_wp2_with fail
      (with_reducible refine (C.out _ _).mono ?_)
      rintro e w1 ⟨rfl, rfl⟩
      generalize lp k = b at *
      cases b
      · go_wp2
        go_round
        case rel => exact ⟨k + 1, by omega, by omega, rfl, by rw [st.out]; rfl⟩
        case measure => simp [intOf]; omega
      · go_wp2
        go_round
        case rel => exact ⟨k + 1, by omega, by omega, rfl, by rw [st.out]; simp only [Value.int.injEq, true_and]; simp; omega⟩
        case measure => simp [intOf]; omega
    · have e : k = y := by omega
      subst e
      go_wp2
      go_ret
      exact ⟨rfl, rfl⟩

end Go.Proofs.YtjijgcgbnmobfaaGreatDoor
