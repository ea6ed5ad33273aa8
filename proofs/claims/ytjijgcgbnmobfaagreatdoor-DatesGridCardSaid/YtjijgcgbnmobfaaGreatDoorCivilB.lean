/- Package civil: the days ahead of a month, the month of a day of the year, May, Number, Of. -/
import Derived.Test.YtjijgcgbnmobfaaGreatDoorCivilA
namespace Go.Proofs.YtjijgcgbnmobfaaGreatDoor
open Go.RowKit
set_option linter.unusedVariables false

theorem Held.lens {w W : World} {fs : List Fact} (h : Held w fs W) (hm : lensF ∈ fs) : Lens W := h.all _ hm
/-- What is told of a day: its number and a code. -/
def nN (y m d : Int) : Int := if mb y m d = true then nb y m d else 0
def nE (y m d : Int) : Int := if mb y m d = true then 0 else 3
theorem n_yes {y m d : Int} (h : may y m d) : nN y m d = nb y m d ∧ nE y m d = 0 := by unfold nN nE; rw [(mb_iff y m d).2 h]; exact ⟨rfl, rfl⟩
theorem n_no {y m d : Int} (h : ¬ may y m d) : nN y m d = 0 ∧ nE y m d = 3 := by unfold nN nE; rw [(mb_not y m d).2 h]; exact ⟨rfl, rfl⟩
theorem aheadM_any (y m : Int) (w : World) (hL : Lens w) (h1 : 1 ≤ m) (h2 : m ≤ 12) : Calls Tryz.prog 82 #[.int .i64 y, .int .i64 m] w fun e w' => e = .returned (.int .i64 (am y m)) ∧ w = w' := by
  have HL := Lib.hid (fun k => length_any y k w hL)
  clear hL
  go_enter Tryz.func82, Tryz.ntmps82
  go_wp2
  go_loop [5, 6] (fun d i => ∃ b : Int, 1 ≤ b ∧ b ≤ m ∧ i = .int .i64 b ∧ d = .int .i64 (am y b)) (fun _ i => (m - intOf i).toNat)
  case atStart => exact ⟨1, by omega, h1, rfl, by rw [am_one]⟩
  case round =>
    obtain ⟨b, b1, b2, rfl, rfl⟩ := hrel
    by_cases hb : b < m
    · have st := Lib.hid (am_step y b b1 (by omega))
      have k1 := am_bd y b
      have k2 := ln_le y b
      generalize am y b = A at *
      go_wp2_with fail
      (with_reducible refine (HL.out _).mono ?_)
      rintro e w1 ⟨rfl, rfl⟩
      generalize ln y b = l at *
      go_wp2
      go_round
      case rel => exact ⟨b + 1, by omega, by omega, rfl, by rw [st.out]⟩
      case measure => simp [intOf]; omega
    · have e : b = m := by omega
      subst e
      go_wp2
      go_ret
      exact ⟨rfl, rfl⟩

theorem monthOf_any (y r m : Int) (w : World) (hL : Lens w) (h1 : 1 ≤ m) (h2 : m ≤ 12) (h3 : am y m ≤ r) (h4 : r < am y m + ln y m) :
    Calls Tryz.prog 78 #[.int .i64 y, .int .i64 r] w fun e w' => e = .returned (.tuple #[.int .i64 m, .int .i64 (r - am y m)]) ∧ w = w' := by
  have HL := Lib.hid (fun k => length_any y k w hL)
  clear hL
  have r0 : 0 ≤ r := by have := am_bd y m; omega
  have r1 : r ≤ 400 := by have := am_bd y m; have := ln_le y m; omega
  go_enter Tryz.func78, Tryz.ntmps78
  go_wp2
  go_loop [4, 5] (fun i l => ∃ b : Int, 1 ≤ b ∧ b ≤ m ∧ i = .int .i64 b ∧ l = .int .i64 (r - am y b)) (fun i _ => (m - intOf i).toNat)
  case atStart => exact ⟨1, by omega, h1, rfl, by rw [am_one]; simp⟩
  case round =>
    obtain ⟨b, b1, b2, rfl, rfl⟩ := hrel
    have k1 := am_bd y b
    have k2 := ln_le y b
    by_cases hb : b < m
    · have st := Lib.hid (am_step y b b1 (by omega))
      have k3 := am_lt y b m b1 hb (by omega)
      have k4 : ln y b ≤ r - am y b := by omega
      clear k3
      obtain ⟨L, HA⟩ : ∃ L, Hid (r - am y b = L) := ⟨_, Lib.hid rfl⟩
      have k5 : 0 ≤ L ∧ L ≤ 400 := by rw [← HA.out]; omega
      rw [HA.out] at k4 ⊢
      clear k1
      go_wp2_with fail
      (with_reducible refine (HL.out _).mono ?_)
      rintro e w1 ⟨rfl, rfl⟩
      obtain ⟨l, HB⟩ : ∃ l, Hid (ln y b = l) := ⟨_, Lib.hid rfl⟩
      rw [HB.out] at k2 k4 ⊢
      go_wp2_with fail
      (with_reducible refine (HL.out _).mono ?_)
      rintro e w1 ⟨rfl, rfl⟩
      rw [HB.out]
      go_wp2
      go_round
      case rel => exact ⟨b + 1, by omega, by omega, rfl, by rw [st.out, ← HA.out, ← HB.out]; simp only [Value.int.injEq, true_and]; omega⟩
      case measure => simp [intOf]; omega
    · have e : b = m := by omega
      subst e
      have k4 : r - am y b < ln y b := by omega
      have k5 : 0 ≤ r - am y b ∧ r - am y b ≤ 400 := by omega
      obtain ⟨L, HA⟩ : ∃ L, Hid (r - am y b = L) := ⟨_, Lib.hid rfl⟩
      rw [HA.out] at k4 k5 ⊢
      clear k1 h3 h4
      go_wp2_with fail
      (with_reducible refine (HL.out _).mono ?_)
      rintro e w1 ⟨rfl, rfl⟩
      obtain ⟨l, HB⟩ : ∃ l, Hid (ln y b = l) := ⟨_, Lib.hid rfl⟩
      rw [HB.out] at k2 k4 ⊢
      go_wp2
      go_ret2
      exact ⟨by rw [HA.out]; rfl, rfl⟩
set_option maxHeartbeats 1000000 in
theorem may_any (y m d : Int) (w : World) (hL : Lens w) : Calls Tryz.prog 80 #[.agg #[.int .i64 y, .int .i64 m, .int .i64 d]] w fun e w' => e = .returned (.bool (mb y m d)) ∧ Below w.heap.size w w' := by
  have HL := Lib.hid hL
  clear hL
  by_cases hy : 1 ≤ y
  · by_cases hz : y ≤ 9999
    · by_cases hd : 1 ≤ d
      · have C := Lib.hid (fun v h => length_any y m v h)
        obtain ⟨l, HB⟩ : ∃ l, Hid (ln y m = l) := ⟨_, Lib.hid rfl⟩
        have hm : mb y m d = decide (d ≤ l) := by
          rw [← HB.out]; unfold mb; rw [decide_eq_decide]
          constructor
          · intro h; exact h.2.2.2.2.2
          · intro h
            by_cases k : m < 1 ∨ 12 < m
            · rw [ln_out y m k] at h; omega
            · exact ⟨hy, hz, by omega, by omega, hd, h⟩
        rw [hm]
        rw [HB.out] at C
        go_enter Tryz.func80, Tryz.ntmps80
        go_wp2
        go_quiet ((go_at_call 79; with_reducible exact quietLeft (C.out _ (Lens.drewN (Lens.alloc HL.out _) _))))
        go_wp2
        go_ret
        exact ⟨rfl, belowDrewN ((Below.refl _ _).alloc (Nat.le_refl _) _) _⟩
      · skip
        have hm : mb y m d = false := by unfold mb; rw [decide_eq_false_iff_not]; omega
        rw [hm]
        have t1 : decide (1 ≤ d) = false := decide_eq_false hd
        go_enter Tryz.func80, Tryz.ntmps80
        go_wp2
        go_quiet (fail)
        go_wp2
        go_ret
        exact ⟨rfl, belowDrewN ((Below.refl _ _).alloc (Nat.le_refl _) _) _⟩
    · skip
      have hm : mb y m d = false := by unfold mb; rw [decide_eq_false_iff_not]; omega
      rw [hm]
      have t1 : decide (y ≤ 9999) = false := decide_eq_false hz
      go_enter Tryz.func80, Tryz.ntmps80
      go_wp2
      go_quiet (fail)
      go_wp2
      go_ret
      exact ⟨rfl, belowDrewN ((Below.refl _ _).alloc (Nat.le_refl _) _) _⟩
  · skip
    have hm : mb y m d = false := by unfold mb; rw [decide_eq_false_iff_not]; omega
    rw [hm]
    have t1 : decide (1 ≤ y) = false := decide_eq_false hy
    go_enter Tryz.func80, Tryz.ntmps80
    go_wp2
    go_quiet (fail)
    go_wp2
    go_ret
    exact ⟨rfl, belowDrewN ((Below.refl _ _).alloc (Nat.le_refl _) _) _⟩

set_option maxHeartbeats 1000000 in
theorem number_any (y m d : Int) (w : World) (hL : Lens w) : Calls Tryz.prog 69 #[.agg #[.int .i64 y, .int .i64 m, .int .i64 d]] w fun e w' =>
    e = .returned (.tuple #[.int .i64 (nN y m d), .int .i64 (nE y m d)]) ∧ Below w.heap.size w w' := by
  by_cases hm : may y m d
  · obtain ⟨e1, e2⟩ := n_yes hm
    rw [e1, e2]
    have hb := (mb_iff y m d).2 hm
    have bd := nb_bd y m d hm
    have H := (Held.start w).add (f := lensF) hL
    clear hL
    have C1 := Lib.hid (fun v h => may_any y m d v h)
    rw [hb] at C1
    obtain ⟨m1, m2, m3, m4, m5, m6⟩ := hm
    have C2 := Lib.hid (fun v => aheadY_any y v m1 (by omega))
    have C3 := Lib.hid (fun v h => aheadM_any y m v h m3 m4)
    have u1 := ah_bd y m1 (by omega)
    have u2 := am_bd y m
    have hn : nb y m d = ah y + am y m + d := rfl
    rw [hn] at bd ⊢
    generalize ah y = a at *
    generalize am y m = b at *
    clear hn m6
    go_enter Tryz.func69, Tryz.ntmps69
    replace H := H.triple w.heap.size (.int .i64 y) (.int .i64 m) (.int .i64 d) 40 rfl
    go_wp2_with fail
    (with_reducible refine (C1.out _ (H.lens (List.Mem.tail _ (List.Mem.tail _ (List.Mem.tail _ (List.Mem.tail _ (List.Mem.tail _ (List.Mem.tail _ (List.Mem.head _))))))))).mono ?_)
    rintro e w1 ⟨rfl, hb1⟩
    replace H := H.below hb1
    clear hb1
    have HK := H.old
    have HL := Lib.hid (H.lens (List.Mem.tail _ (List.Mem.tail _ (List.Mem.tail _ (List.Mem.tail _ (List.Mem.tail _ (List.Mem.tail _ (List.Mem.head _))))))))
    have c0 := H.cell w.heap.size 0 (.int .i64 y) (List.Mem.head _)
    have c1 := H.cell w.heap.size 1 (.int .i64 m) (List.Mem.tail _ (List.Mem.head _))
    have c2 := H.cell w.heap.size 2 (.int .i64 d) (List.Mem.tail _ (List.Mem.tail _ (List.Mem.head _)))
    clear H
    go_wp2
    go_quiet (first | (go_at_call 81; with_reducible exact quietLeft (C2.out _)) | (go_at_call 82; with_reducible exact quietLeft (C3.out _ (Lens.drewN HL.out _))))
    go_wp2
    go_ret2
    exact ⟨rfl, belowDrewN HK _⟩
  · obtain ⟨e1, e2⟩ := n_no hm
    rw [e1, e2]
    have hb := (mb_not y m d).2 hm
    have C1 := Lib.hid (fun v h => may_any y m d v h)
    rw [hb] at C1
    have H := (Held.start w).add (f := lensF) hL
    clear hL hb hm
    go_enter Tryz.func69, Tryz.ntmps69
    replace H := H.triple w.heap.size (.int .i64 y) (.int .i64 m) (.int .i64 d) 40 rfl
    go_wp2_with fail
    (with_reducible refine (C1.out _ (H.lens (List.Mem.tail _ (List.Mem.tail _ (List.Mem.tail _ (List.Mem.tail _ (List.Mem.tail _ (List.Mem.tail _ (List.Mem.head _))))))))).mono ?_)
    rintro e w1 ⟨rfl, hb1⟩
    replace H := H.below hb1
    clear hb1
    have HK := H.old
    clear H
    go_wp2
    go_ret2
    exact ⟨rfl, HK⟩

/-- What is told of a number: the day y m d and a code. -/
def DayIs (n y m d e : Int) : Prop := (may y m d ∧ nb y m d = n ∧ e = 0) ∨ ((n < 1 ∨ 3652059 < n) ∧ y = 0 ∧ m = 0 ∧ d = 0 ∧ e = 3)
theorem day_is (n : Int) : ∃ y m d e, DayIs n y m d e := by
  by_cases h : n < 1 ∨ 3652059 < n
  · exact ⟨0, 0, 0, 3, Or.inr ⟨h, rfl, rfl, rfl, rfl⟩⟩
  · obtain ⟨y, m, d, h1, h2⟩ := day_of n (by omega) (by omega)
    exact ⟨y, m, d, 0, Or.inl ⟨h1, h2, rfl⟩⟩

set_option maxHeartbeats 1000000 in
theorem civ_any (n y m d e : Int) (w : World) (hL : Lens w) (hd : DayIs n y m d e) : Calls Tryz.prog 66 #[.int .i64 n] w fun e' w' =>
    e' = .returned (.tuple #[.agg #[.int .i64 y, .int .i64 m, .int .i64 d], .int .i64 e]) ∧ Below w.heap.size w w' := by
  rcases hd with ⟨hm, hn, rfl⟩ | ⟨ho, rfl, rfl, rfl, rfl⟩
  · have iy := in_year y m d hm
    have bd := nb_bd y m d hm
    rw [hn] at bd
    obtain ⟨m1, m2, m3, m4, m5, m6⟩ := hm
    unfold nb at hn
    have C1 := Lib.hid (fun v => yearOf_any n y v m1 m2 (by omega) (by omega))
    have C2 := Lib.hid (fun v h => monthOf_any y (n - 1 - ah y) m v h m3 m4 (by omega) (by omega))
    have e1 : n - 1 - ah y - am y m = d - 1 := by omega
    rw [e1] at C2
    generalize n - 1 - ah y = g at *
    clear e1 iy
    have d31 : d ≤ 31 := by have := ln_le y m; omega
    have H := (Held.start w).add (f := lensF) hL
    clear hL hn
    go_enter Tryz.func66, Tryz.ntmps66
    replace H := H.triple w.heap.size (.int .i64 0) (.int .i64 0) (.int .i64 0) 40 rfl
    go_wp2_with fail
    (with_reducible refine (C1.out _).mono ?_)
    rintro e w1 ⟨rfl, rfl⟩
    go_wp2_with fail
    (with_reducible refine (C2.out _ (H.lens (List.Mem.tail _ (List.Mem.tail _ (List.Mem.tail _ (List.Mem.tail _ (List.Mem.tail _ (List.Mem.tail _ (List.Mem.head _))))))))).mono ?_)
    rintro e w1 ⟨rfl, rfl⟩
    have HK := H.old
    clear H
    go_wp2
    exact bodyPost_ret (v := .tuple #[.agg #[.int .i64 y, .int .i64 m, .int .i64 d], .int .i64 0]) (by simp [results, Tryz.results66, go_sem]) rfl ⟨rfl, (Below.refl _ _).alloc (Nat.le_refl _) _⟩
  · have D : ∀ w : World, Below w.heap.size w (w.alloc (.cells #[.int .i64 0, .int .i64 0, .int .i64 0] 40)) := fun w => (Below.refl _ _).alloc (Nat.le_refl _) _
    by_cases h : n < 1
    · go_enter Tryz.func66, Tryz.ntmps66
      go_wp2
      exact bodyPost_ret (v := .tuple #[.agg #[.int .i64 0, .int .i64 0, .int .i64 0], .int .i64 3]) (by simp [results, Tryz.results66, go_sem]) rfl ⟨rfl, D _⟩
    · have h2 : 3652059 < n := by omega
      go_enter Tryz.func66, Tryz.ntmps66
      go_wp2
      exact bodyPost_ret (v := .tuple #[.agg #[.int .i64 0, .int .i64 0, .int .i64 0], .int .i64 3]) (by simp [results, Tryz.results66, go_sem]) rfl ⟨rfl, D _⟩
end Go.Proofs.YtjijgcgbnmobfaaGreatDoor
