/- The reference of layer 8. -/
import Derived.Test.YtobdimekjhdefaaDoorAcNum
import Derived.Test.YtobdimekjhdefaaDoorMoRef
import Derived.Test.YtobdimekjhdefaaDoorRefNew
import Derived.Test.YtobdimekjhdefaaDoorRefArith
namespace Go.Proofs.YtobdimekjhdefaaDoor
open Go.RowKit
set_option linter.unusedVariables false
set_option linter.unusedSimpArgs false

theorem rday_is (n : Int) (b : Bool) (w : World) (h : decide (1 ≤ n ∧ n ≤ 3652059) = b) : Calls Tryd.prog 15 #[.int .i64 n] w fun e w' => e = .returned (.bool b) ∧ Below w.heap.size w w' := by
  subst h
  by_cases h1 : 1 ≤ n
  · have h2 : decide (1 ≤ n ∧ n ≤ 3652059) = decide (n ≤ 3652059) := by simp [h1]
    rw [h2]
    go_enter Tryd.func15, Tryd.ntmps15
    go_wp2
    go_ret
    exact ⟨rfl, Below.refl _ _⟩
  · have h2 : decide (1 ≤ n ∧ n ≤ 3652059) = false := by simp [h1]
    have h3 : decide (1 ≤ n) = false := by simp [h1]
    rw [h2]
    go_enter Tryd.func15, Tryd.ntmps15
    go_wp2
    go_ret
    exact ⟨rfl, Below.refl _ _⟩

set_option maxHeartbeats 1000000 in
theorem rwhy_a (a b : Int) (w : World) (h : a < 1 ∨ 3652059 < a) :
    Calls Tryd.prog 23 #[.int .i64 a, .int .i64 b] w fun e' w' => e' = .returned (.int .i64 3) ∧ Below w.heap.size w w' := by
  have H := Held.start w
  have D1 : Hid (decide (1 ≤ a ∧ a ≤ 3652059) = false) := Lib.hid (by rw [decide_eq_false_iff_not]; omega)
  obtain ⟨x, hx⟩ : ∃ x, decide (1 ≤ b ∧ b ≤ 3652059) = x := ⟨_, rfl⟩
  have D2 := Lib.hid hx
  clear h hx
  go_enter Tryd.func23, Tryd.ntmps23
  go_wp2_with fail
  (with_reducible refine (rday_is a false _ D1.out).mono ?_)
  rintro e w1 ⟨rfl, hb⟩
  replace H := H.below hb
  clear hb
  go_wp2_with fail
  (with_reducible refine (rday_is b x _ D2.out).mono ?_)
  rintro e w2 ⟨rfl, hb⟩
  replace H := H.below hb
  clear hb
  go_wp2_with fail
  go_ret
  exact ⟨rfl, H.old⟩

set_option maxHeartbeats 1000000 in
theorem rwhy_b (a b : Int) (w : World) (h1 : 1 ≤ a ∧ a ≤ 3652059) (h : b < 1 ∨ 3652059 < b) :
    Calls Tryd.prog 23 #[.int .i64 a, .int .i64 b] w fun e' w' => e' = .returned (.int .i64 3) ∧ Below w.heap.size w w' := by
  have H := Held.start w
  have D1 : Hid (decide (1 ≤ a ∧ a ≤ 3652059) = true) := Lib.hid (by rw [decide_eq_true_eq]; exact h1)
  have D2 : Hid (decide (1 ≤ b ∧ b ≤ 3652059) = false) := Lib.hid (by rw [decide_eq_false_iff_not]; omega)
  clear h h1
  go_enter Tryd.func23, Tryd.ntmps23
  go_wp2_with fail
  (with_reducible refine (rday_is a true _ D1.out).mono ?_)
  rintro e w1 ⟨rfl, hb⟩
  replace H := H.below hb
  clear hb
  go_wp2_with fail
  (with_reducible refine (rday_is b false _ D2.out).mono ?_)
  rintro e w2 ⟨rfl, hb⟩
  replace H := H.below hb
  clear hb
  go_wp2_with fail
  go_ret
  exact ⟨rfl, H.old⟩

set_option maxHeartbeats 1000000 in
theorem rwhy_gt (a b : Int) (w : World) (h1 : 1 ≤ a ∧ a ≤ 3652059) (h2 : 1 ≤ b ∧ b ≤ 3652059) (h : a > b) :
    Calls Tryd.prog 23 #[.int .i64 a, .int .i64 b] w fun e' w' => e' = .returned (.int .i64 4) ∧ Below w.heap.size w w' := by
  have H := Held.start w
  have D1 : Hid (decide (1 ≤ a ∧ a ≤ 3652059) = true) := Lib.hid (by rw [decide_eq_true_eq]; exact h1)
  have D2 : Hid (decide (1 ≤ b ∧ b ≤ 3652059) = true) := Lib.hid (by rw [decide_eq_true_eq]; exact h2)
  clear h1 h2
  go_enter Tryd.func23, Tryd.ntmps23
  go_wp2_with fail
  (with_reducible refine (rday_is a true _ D1.out).mono ?_)
  rintro e w1 ⟨rfl, hb⟩
  replace H := H.below hb
  clear hb
  go_wp2_with fail
  (with_reducible refine (rday_is b true _ D2.out).mono ?_)
  rintro e w2 ⟨rfl, hb⟩
  replace H := H.below hb
  clear hb
  go_wp2_with fail
  go_ret
  exact ⟨rfl, H.old⟩

set_option maxHeartbeats 1000000 in
theorem rwhy_ok (a b : Int) (w : World) (h1 : 1 ≤ a ∧ a ≤ 3652059) (h2 : 1 ≤ b ∧ b ≤ 3652059) (h : ¬ a > b) :
    Calls Tryd.prog 23 #[.int .i64 a, .int .i64 b] w fun e' w' => e' = .returned (.int .i64 0) ∧ Below w.heap.size w w' := by
  have H := Held.start w
  have D1 : Hid (decide (1 ≤ a ∧ a ≤ 3652059) = true) := Lib.hid (by rw [decide_eq_true_eq]; exact h1)
  have D2 : Hid (decide (1 ≤ b ∧ b ≤ 3652059) = true) := Lib.hid (by rw [decide_eq_true_eq]; exact h2)
  clear h1 h2
  go_enter Tryd.func23, Tryd.ntmps23
  go_wp2_with fail
  (with_reducible refine (rday_is a true _ D1.out).mono ?_)
  rintro e w1 ⟨rfl, hb⟩
  replace H := H.below hb
  clear hb
  go_wp2_with fail
  (with_reducible refine (rday_is b true _ D2.out).mono ?_)
  rintro e w2 ⟨rfl, hb⟩
  replace H := H.below hb
  clear hb
  go_wp2_with fail
  go_ret
  exact ⟨rfl, H.old⟩

/-- Why two days have no part. -/
def WhyIs (a b c : Int) : Prop := (((a < 1 ∨ 3652059 < a) ∨ (b < 1 ∨ 3652059 < b)) ∧ c = 3) ∨ ((1 ≤ a ∧ a ≤ 3652059) ∧ (1 ≤ b ∧ b ≤ 3652059) ∧ b < a ∧ c = 4) ∨ ((1 ≤ a ∧ a ≤ 3652059) ∧ (1 ≤ b ∧ b ≤ 3652059) ∧ a ≤ b ∧ c = 0)
theorem rwhy_any (a b c : Int) (w : World) (h : WhyIs a b c) : Calls Tryd.prog 23 #[.int .i64 a, .int .i64 b] w fun e' w' => e' = .returned (.int .i64 c) ∧ Below w.heap.size w w' := by
  rcases h with ⟨h, rfl⟩ | ⟨h1, h2, h, rfl⟩ | ⟨h1, h2, h, rfl⟩
  · by_cases h1 : a < 1 ∨ 3652059 < a
    · exact rwhy_a a b w h1
    · exact rwhy_b a b w (by omega) (by omega)
  · exact rwhy_gt a b w h1 h2 h
  · exact rwhy_ok a b w h1 h2 (by omega)

set_option maxHeartbeats 1000000 in
theorem leaps_any (n y m d : Int) (w : World) (h : may y m d) (hn : nb y m d = n) :
    Calls Tryd.prog 29 #[.int .i64 n] w fun e' w' => e' = .returned (.int .i64 (lv y m d)) ∧ Below w.heap.size w w' := by
  have H := Held.start w
  have O1 : Hid (DayIs n y m d 0) := Lib.hid (Or.inl ⟨h, hn, rfl⟩)
  have iy := in_year y m d h
  have bd := nb_bd y m d h
  rw [hn] at bd
  obtain ⟨y1, y2, m1, m2, d1, d2⟩ := h
  have yb := yl_bd y
  have F1 : Hid (nN y 1 1 = ah y + 1 ∧ nE y 1 1 = 0) := Lib.hid (by
    have k : may y 1 1 := ⟨y1, y2, by omega, by omega, by omega, by have := ln_ge y 1 (by omega) (by omega); omega⟩
    have z := n_yes k
    have e : nb y 1 1 = ah y + 1 := by unfold nb; rw [am_one]; omega
    rw [e] at z; exact z)
  have FN : Hid (n - (ah y + 1) = am y m + d - 1) := Lib.hid (by have : ah y + am y m + d = n := hn; omega)
  have ab := ah_bd y y1 (by omega)
  have lb := ly_bd y y1 (by omega)
  have L1 : Hid (lv y m d = 366 * ly y + if lp y = true then am y m + d - 1 else 0) := Lib.hid rfl
  obtain ⟨r, HR⟩ : ∃ r, Hid (lv y m d = r) := ⟨_, Lib.hid rfl⟩
  rw [HR.out] at L1 ⊢
  have CL := Lib.hid (fun k v => rleap_any k v)
  clear d2 hn iy
  go_enter Tryd.func29, Tryd.ntmps29
  go_wp2_with fail
  (with_reducible refine (rof_any n y m d 0 _ O1.out).mono ?_)
  rintro e w1 ⟨rfl, hb⟩
  replace H := H.below hb
  clear hb
  skip
  replace H := (H.triple (w1.heap.size) (.int .i64 y) (.int .i64 m) (.int .i64 d) 41 rfl)
  have cc0 := H.cell (w1.heap.size) 0 (.int .i64 y) (List.Mem.head _)
  have cc1 := H.cell (w1.heap.size) 1 (.int .i64 m) (List.Mem.tail _ (List.Mem.head _))
  have cc2 := H.cell (w1.heap.size) 2 (.int .i64 d) (List.Mem.tail _ (List.Mem.tail _ (List.Mem.head _)))
  have lc := H.lt (w1.heap.size) 0 (.int .i64 y) (List.Mem.head _)
  have HK := H.old
  clear H
  obtain ⟨b, HB⟩ : ∃ b, Hid (lp y = b) := ⟨_, Lib.hid rfl⟩
  go_wp2
  go_loop [5, 6] (fun s k => ∃ k' : Int, 4 ≤ k' ∧ k' % 4 = 0 ∧ k' ≤ y + 3 ∧ k = .int .i64 k' ∧ s = .int .i64 (366 * ly k')) (fun _ k => (y - intOf k).toNat)
  case atStart => exact ⟨4, by omega, by omega, by omega, rfl, rfl⟩
  case round =>
    obtain ⟨k, k1, k2, k3, rfl, rfl⟩ := hrel
    by_cases hk : k < y
    · have st := Lib.hid (ly_four k k2)
      have kb := ly_bd k (by omega) (by omega)
      obtain ⟨A, HA⟩ : ∃ A, Hid (ly k = A) := ⟨_, Lib.hid rfl⟩
      rw [HA.out] at kb ⊢
      have k2 := Lib.hid k2
      go_wp2_with fail
      (with_reducible refine (CL.out k _).mono ?_)
      rintro e w8 ⟨rfl, rfl⟩
      obtain ⟨q, HQ⟩ : ∃ q, Hid (lp k = q) := ⟨_, Lib.hid rfl⟩
      rw [HQ.out]
      have e := st.out
      rw [HA.out, HQ.out] at e
    
      have E := Lib.hid e
      clear e
      cases q
      · go_wp2
        go_round
        case rel => exact ⟨k + 4, by omega, by have := k2.out; omega, by omega, rfl, by rw [E.out]; simp⟩
        case measure => simp [intOf]; omega
      · go_wp2
        go_round
        case rel => exact ⟨k + 4, by omega, by have := k2.out; omega, by omega, rfl, by rw [E.out]; simp only [Value.int.injEq, true_and, if_true]; omega⟩
        case measure => simp [intOf]; omega
    · have E := Lib.hid (ly_low k y k2 (by omega) (by omega))
      have kb := ly_bd y y1 (by omega)
      rw [E.out] at kb
      obtain ⟨A, HA⟩ : ∃ A, Hid (ly k = A) := ⟨_, Lib.hid rfl⟩
      rw [HA.out] at kb ⊢
      have L2 := L1.out
      rw [HB.out, E.out, HA.out] at L2
      have L3 := Lib.hid L2
      clear L2 k2
      go_wp2_with fail
      (with_reducible refine (CL.out y _).mono ?_)
      rintro e w8 ⟨rfl, rfl⟩
      rw [HB.out]
      cases b
      · go_wp2
        go_ret
        exact ⟨retI (by rw [L3.out]; simp), HK⟩
      · go_wp2_with fail
        (with_reducible refine (rnumber_is y 1 1 (ah y + 1) 0 _ F1.out).mono ?_)
        rintro e w9 ⟨rfl, hb9⟩
        go_wp2
        go_ret
        exact ⟨retI (by have := FN.out; rw [L3.out]; simp only [if_true]; omega), HK.trans (hb9.mono HK.size)⟩
end Go.Proofs.YtobdimekjhdefaaDoor
