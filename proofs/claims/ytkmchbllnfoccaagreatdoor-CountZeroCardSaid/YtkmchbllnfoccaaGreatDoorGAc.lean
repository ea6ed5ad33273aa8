/- Several texts in one: AcNum, AcRef, AcBy, AcSum, AcErr, AcBetw, AcSpan, AcShown, AcActual. -/
import Derived.Test.YtkmchbllnfoccaaGreatDoorMoNum
import Derived.Test.YtkmchbllnfoccaaGreatDoorRatioNum
import Derived.Test.YtkmchbllnfoccaaGreatDoorMoRef
import Derived.Test.YtkmchbllnfoccaaGreatDoorRefNew
import Derived.Test.YtkmchbllnfoccaaGreatDoorRefArith
import Derived.Test.YtkmchbllnfoccaaGreatDoorMoEraNum
import Derived.Test.YtkmchbllnfoccaaGreatDoorProg
import Derived.Test.YtkmchbllnfoccaaGreatDoorCBase
import Derived.LaidEql
import Derived.Stop.Asserts
import Derived.RowKitTokens
import Derived.Test.YtkmchbllnfoccaaGreatDoorQuad
import Derived.Test.YtkmchbllnfoccaaGreatDoorCivilB
import Derived.Test.YtkmchbllnfoccaaGreatDoorRShown
/- Plain numbers: how many days ahead of a day are in leap years. No program in this text. -/
namespace Go.Proofs.YtkmchbllnfoccaaGreatDoor
set_option linter.unusedVariables false

/-- How many leap years are ahead of a year, from 1 on. -/
def ly (y : Int) : Int := (y - 1) / 4 - (y - 1) / 100 + (y - 1) / 400
theorem ly_step (y : Int) : ly (y + 1) = ly y + if lp y = true then 1 else 0 := by
  unfold ly
  by_cases h : lp y = true
  · rw [if_pos h]; rw [lp_iff] at h; omega
  · rw [if_neg h]; rw [lp_iff] at h; omega
theorem ly_ah (y : Int) : ah y = 365 * (y - 1) + ly y := by unfold ah ly; omega
theorem ly_bd (y : Int) (h1 : 1 ≤ y) (h2 : y ≤ 10000) : 0 ≤ ly y ∧ ly y ≤ 2500 := by unfold ly; omega
theorem ly_le (y z : Int) (h : y ≤ z) : ly y ≤ ly z := by unfold ly; omega
/-- Of four years from one behind a fourth on, the fourth alone may be a leap year. -/
theorem ly_four (y : Int) (h : y % 4 = 0) : ly (y + 4) = ly y + if lp y = true then 1 else 0 := by
  unfold ly
  by_cases h' : lp y = true
  · rw [if_pos h']; rw [lp_iff] at h'; omega
  · rw [if_neg h']; rw [lp_iff] at h'; omega
theorem ly_low (y z : Int) (h : y % 4 = 0) (h1 : y - 4 < z) (h2 : z ≤ y) : ly z = ly y := by unfold ly; omega
/-- How many days ahead of a day are in leap years. -/
def lv (y m d : Int) : Int := 366 * ly y + if lp y = true then am y m + d - 1 else 0
theorem lv_bd (y m d : Int) (h : may y m d) : 0 ≤ lv y m d ∧ lv y m d ≤ 920000 := by
  have a := in_year y m d h
  obtain ⟨h1, h2, -, -, -, -⟩ := h
  have b := ly_bd y h1 (by omega)
  have c := yl_bd y
  unfold lv; split <;> omega
/-- The days that are in no leap years, ahead of a day. -/
theorem lv_rest (y m d : Int) : nb y m d - 1 - lv y m d = 365 * (y - 1 - ly y) + if lp y = true then 0 else am y m + d - 1 := by
  have h := ly_ah y
  unfold nb lv; split <;> omega
/-- A later day has not fewer days ahead of it, of either kind. -/
theorem lv_le (y m d y' m' d' : Int) (h : may y m d) (h' : may y' m' d') (hl : nb y m d ≤ nb y' m' d') :
    0 ≤ lv y' m' d' - lv y m d ∧ lv y' m' d' - lv y m d ≤ nb y' m' d' - nb y m d := by
  have a := in_year y m d h
  have a' := in_year y' m' d' h'
  have e := lv_rest y m d
  have e' := lv_rest y' m' d'
  by_cases hy : y = y'
  · subst hy
    have b : nb y m d = ah y + am y m + d := rfl
    have b' : nb y m' d' = ah y + am y m' + d' := rfl
    unfold lv at *
    split at e <;> split at e' <;> simp_all <;> omega
  · have k : y < y' := by
      by_cases k : y' < y
      · have := nb_lt _ _ _ _ _ _ h' h (Or.inl k)
        omega
      · omega
    have s1 := ly_step y
    have s2 := ly_le (y + 1) y' (by omega)
    have t : ly y' - ly (y + 1) ≤ y' - (y + 1) := by unfold ly; omega
    unfold lv at *
    unfold yl at a a'
    constructor
    · split <;> split <;> simp_all <;> omega
    · by_cases p : lp y = true
      · rw [if_pos p] at *
        split at e' <;> simp_all <;> omega
      · rw [if_neg p] at *
        split at e' <;> simp_all <;> omega
end Go.Proofs.YtkmchbllnfoccaaGreatDoor
/- The reference of layer 8. -/
namespace Go.Proofs.YtkmchbllnfoccaaGreatDoor
open Go.RowKit
set_option linter.unusedVariables false
set_option linter.unusedSimpArgs false

theorem rday_is_ac (n : Int) (b : Bool) (w : World) (h : decide (1 ≤ n ∧ n ≤ 3652059) = b) : Calls Tryz.prog 16 #[.int .i64 n] w fun e w' => e = .returned (.bool b) ∧ Below w.heap.size w w' := by
  subst h
  by_cases h1 : 1 ≤ n
  · have h2 : decide (1 ≤ n ∧ n ≤ 3652059) = decide (n ≤ 3652059) := by simp [h1]
    rw [h2]
    go_enter Tryz.func16, Tryz.ntmps16
    go_wp2
    go_ret
    exact ⟨rfl, Below.refl _ _⟩
  · have h2 : decide (1 ≤ n ∧ n ≤ 3652059) = false := by simp [h1]
    have h3 : decide (1 ≤ n) = false := by simp [h1]
    rw [h2]
    go_enter Tryz.func16, Tryz.ntmps16
    go_wp2
    go_ret
    exact ⟨rfl, Below.refl _ _⟩

set_option maxHeartbeats 1000000 in
theorem rwhy_a_ac (a b : Int) (w : World) (h : a < 1 ∨ 3652059 < a) :
    Calls Tryz.prog 40 #[.int .i64 a, .int .i64 b] w fun e' w' => e' = .returned (.int .i64 3) ∧ Below w.heap.size w w' := by
  have H := Held.start w
  have D1 : Hid (decide (1 ≤ a ∧ a ≤ 3652059) = false) := Lib.hid (by rw [decide_eq_false_iff_not]; omega)
  obtain ⟨x, hx⟩ : ∃ x, decide (1 ≤ b ∧ b ≤ 3652059) = x := ⟨_, rfl⟩
  have D2 := Lib.hid hx
  clear h hx
  go_enter Tryz.func40, Tryz.ntmps40
  go_wp2_with fail
  (with_reducible refine (rday_is_ac a false _ D1.out).mono ?_)
  rintro e w1 ⟨rfl, hb⟩
  replace H := H.below hb
  clear hb
  go_wp2_with fail
  (with_reducible refine (rday_is_ac b x _ D2.out).mono ?_)
  rintro e w2 ⟨rfl, hb⟩
  replace H := H.below hb
  clear hb
  go_wp2_with fail
  go_ret
  exact ⟨rfl, H.old⟩

set_option maxHeartbeats 1000000 in
theorem rwhy_b_ac (a b : Int) (w : World) (h1 : 1 ≤ a ∧ a ≤ 3652059) (h : b < 1 ∨ 3652059 < b) :
    Calls Tryz.prog 40 #[.int .i64 a, .int .i64 b] w fun e' w' => e' = .returned (.int .i64 3) ∧ Below w.heap.size w w' := by
  have H := Held.start w
  have D1 : Hid (decide (1 ≤ a ∧ a ≤ 3652059) = true) := Lib.hid (by rw [decide_eq_true_eq]; exact h1)
  have D2 : Hid (decide (1 ≤ b ∧ b ≤ 3652059) = false) := Lib.hid (by rw [decide_eq_false_iff_not]; omega)
  clear h h1
  go_enter Tryz.func40, Tryz.ntmps40
  go_wp2_with fail
  (with_reducible refine (rday_is_ac a true _ D1.out).mono ?_)
  rintro e w1 ⟨rfl, hb⟩
  replace H := H.below hb
  clear hb
  go_wp2_with fail
  (with_reducible refine (rday_is_ac b false _ D2.out).mono ?_)
  rintro e w2 ⟨rfl, hb⟩
  replace H := H.below hb
  clear hb
  go_wp2_with fail
  go_ret
  exact ⟨rfl, H.old⟩

set_option maxHeartbeats 1000000 in
theorem rwhy_gt_ac (a b : Int) (w : World) (h1 : 1 ≤ a ∧ a ≤ 3652059) (h2 : 1 ≤ b ∧ b ≤ 3652059) (h : a > b) :
    Calls Tryz.prog 40 #[.int .i64 a, .int .i64 b] w fun e' w' => e' = .returned (.int .i64 4) ∧ Below w.heap.size w w' := by
  have H := Held.start w
  have D1 : Hid (decide (1 ≤ a ∧ a ≤ 3652059) = true) := Lib.hid (by rw [decide_eq_true_eq]; exact h1)
  have D2 : Hid (decide (1 ≤ b ∧ b ≤ 3652059) = true) := Lib.hid (by rw [decide_eq_true_eq]; exact h2)
  clear h1 h2
  go_enter Tryz.func40, Tryz.ntmps40
  go_wp2_with fail
  (with_reducible refine (rday_is_ac a true _ D1.out).mono ?_)
  rintro e w1 ⟨rfl, hb⟩
  replace H := H.below hb
  clear hb
  go_wp2_with fail
  (with_reducible refine (rday_is_ac b true _ D2.out).mono ?_)
  rintro e w2 ⟨rfl, hb⟩
  replace H := H.below hb
  clear hb
  go_wp2_with fail
  go_ret
  exact ⟨rfl, H.old⟩

set_option maxHeartbeats 1000000 in
theorem rwhy_ok_ac (a b : Int) (w : World) (h1 : 1 ≤ a ∧ a ≤ 3652059) (h2 : 1 ≤ b ∧ b ≤ 3652059) (h : ¬ a > b) :
    Calls Tryz.prog 40 #[.int .i64 a, .int .i64 b] w fun e' w' => e' = .returned (.int .i64 0) ∧ Below w.heap.size w w' := by
  have H := Held.start w
  have D1 : Hid (decide (1 ≤ a ∧ a ≤ 3652059) = true) := Lib.hid (by rw [decide_eq_true_eq]; exact h1)
  have D2 : Hid (decide (1 ≤ b ∧ b ≤ 3652059) = true) := Lib.hid (by rw [decide_eq_true_eq]; exact h2)
  clear h1 h2
  go_enter Tryz.func40, Tryz.ntmps40
  go_wp2_with fail
  (with_reducible refine (rday_is_ac a true _ D1.out).mono ?_)
  rintro e w1 ⟨rfl, hb⟩
  replace H := H.below hb
  clear hb
  go_wp2_with fail
  (with_reducible refine (rday_is_ac b true _ D2.out).mono ?_)
  rintro e w2 ⟨rfl, hb⟩
  replace H := H.below hb
  clear hb
  go_wp2_with fail
  go_ret
  exact ⟨rfl, H.old⟩

/-- Why two days have no part. -/
def WhyIs_ac (a b c : Int) : Prop := (((a < 1 ∨ 3652059 < a) ∨ (b < 1 ∨ 3652059 < b)) ∧ c = 3) ∨ ((1 ≤ a ∧ a ≤ 3652059) ∧ (1 ≤ b ∧ b ≤ 3652059) ∧ b < a ∧ c = 4) ∨ ((1 ≤ a ∧ a ≤ 3652059) ∧ (1 ≤ b ∧ b ≤ 3652059) ∧ a ≤ b ∧ c = 0)
theorem rwhy_any_ac (a b c : Int) (w : World) (h : WhyIs_ac a b c) : Calls Tryz.prog 40 #[.int .i64 a, .int .i64 b] w fun e' w' => e' = .returned (.int .i64 c) ∧ Below w.heap.size w w' := by
  rcases h with ⟨h, rfl⟩ | ⟨h1, h2, h, rfl⟩ | ⟨h1, h2, h, rfl⟩
  · by_cases h1 : a < 1 ∨ 3652059 < a
    · exact rwhy_a_ac a b w h1
    · exact rwhy_b_ac a b w (by omega) (by omega)
  · exact rwhy_gt_ac a b w h1 h2 h
  · exact rwhy_ok_ac a b w h1 h2 (by omega)

set_option maxHeartbeats 1000000 in
theorem leaps_any (n y m d : Int) (w : World) (h : may y m d) (hn : nb y m d = n) :
    Calls Tryz.prog 42 #[.int .i64 n] w fun e' w' => e' = .returned (.int .i64 (lv y m d)) ∧ Below w.heap.size w w' := by
  have H := Held.start w
  have O1 : Hid (DayIs n y m d 0) := Lib.hid (Or.inl ⟨h, hn, rfl⟩)
  have iy := in_year y m d h
  have bd := nb_bd y m d h
  rw [hn] at bd
  obtain ⟨y1, y2, m1, m2, d1, d2⟩ := h
  have yb := yl_bd y
  have F1 : Hid (nN y 1 1 = ah y + 1 ∧ nE y 1 1 = 0) := Lib.hid (by
    have k : may y 1 1 := ⟨y1, y2, by omega, by omega, by omega, by have := ln_ge y 1 (by omega) (by omega); omega⟩
    have z := n_yes k
    have e : nb y 1 1 = ah y + 1 := by unfold nb; rw [am_one]; omega
    rw [e] at z; exact z)
  have FN : Hid (n - (ah y + 1) = am y m + d - 1) := Lib.hid (by have : ah y + am y m + d = n := hn; omega)
  have ab := ah_bd y y1 (by omega)
  have lb := ly_bd y y1 (by omega)
  have L1 : Hid (lv y m d = 366 * ly y + if lp y = true then am y m + d - 1 else 0) := Lib.hid rfl
  obtain ⟨r, HR⟩ : ∃ r, Hid (lv y m d = r) := ⟨_, Lib.hid rfl⟩
  rw [HR.out] at L1 ⊢
  have CL := Lib.hid (fun k v => rleap_any k v)
  clear d2 hn iy
  go_enter Tryz.func42, Tryz.ntmps42
  go_wp2_with fail
  (with_reducible refine (rof_any n y m d 0 _ O1.out).mono ?_)
  rintro e w1 ⟨rfl, hb⟩
  replace H := H.below hb
  clear hb
  skip
  replace H := (H.triple (w1.heap.size) (.int .i64 y) (.int .i64 m) (.int .i64 d) 78 rfl)
  have cc0 := H.cell (w1.heap.size) 0 (.int .i64 y) (List.Mem.head _)
  have cc1 := H.cell (w1.heap.size) 1 (.int .i64 m) (List.Mem.tail _ (List.Mem.head _))
  have cc2 := H.cell (w1.heap.size) 2 (.int .i64 d) (List.Mem.tail _ (List.Mem.tail _ (List.Mem.head _)))
  have lc := H.lt (w1.heap.size) 0 (.int .i64 y) (List.Mem.head _)
  have HK := H.old
  clear H
  obtain ⟨b, HB⟩ : ∃ b, Hid (lp y = b) := ⟨_, Lib.hid rfl⟩
  go_wp2
  go_loop [5, 6] (fun s k => ∃ k' : Int, 4 ≤ k' ∧ k' % 4 = 0 ∧ k' ≤ y + 3 ∧ k = .int .i64 k' ∧ s = .int .i64 (366 * ly k')) (fun _ k => (y - intOf k).toNat)
  case atStart => exact ⟨4, by omega, by omega, by omega, rfl, rfl⟩
  case round =>
    obtain ⟨k, k1, k2, k3, rfl, rfl⟩ := hrel
    by_cases hk : k < y
    · have st := Lib.hid (ly_four k k2)
      have kb := ly_bd k (by omega) (by omega)
      obtain ⟨A, HA⟩ : ∃ A, Hid (ly k = A) := ⟨_, Lib.hid rfl⟩
      rw [HA.out] at kb ⊢
      have k2 := Lib.hid k2
      go_wp2_with fail
      (with_reducible refine (CL.out k _).mono ?_)
      rintro e w8 ⟨rfl, rfl⟩
      obtain ⟨q, HQ⟩ : ∃ q, Hid (lp k = q) := ⟨_, Lib.hid rfl⟩
      rw [HQ.out]
      have e := st.out
      rw [HA.out, HQ.out] at e
    
      have E := Lib.hid e
      clear e
      cases q
      · go_wp2
        go_round
        case rel => exact ⟨k + 4, by omega, by have := k2.out; omega, by omega, rfl, by rw [E.out]; simp⟩
        case measure => simp [intOf]; omega
      · go_wp2
        go_round
        case rel => exact ⟨k + 4, by omega, by have := k2.out; omega, by omega, rfl, by rw [E.out]; simp only [Value.int.injEq, true_and, if_true]; omega⟩
        case measure => simp [intOf]; omega
    · have E := Lib.hid (ly_low k y k2 (by omega) (by omega))
      have kb := ly_bd y y1 (by omega)
      rw [E.out] at kb
      obtain ⟨A, HA⟩ : ∃ A, Hid (ly k = A) := ⟨_, Lib.hid rfl⟩
      rw [HA.out] at kb ⊢
      have L2 := L1.out
      rw [HB.out, E.out, HA.out] at L2
      have L3 := Lib.hid L2
      clear L2 k2
      go_wp2_with fail
      (with_reducible refine (CL.out y _).mono ?_)
      rintro e w8 ⟨rfl, rfl⟩
      rw [HB.out]
      cases b
      · go_wp2
        go_ret
        exact ⟨retI (by rw [L3.out]; simp), HK⟩
      · go_wp2_with fail
        (with_reducible refine (rnumber_is y 1 1 (ah y + 1) 0 _ F1.out).mono ?_)
        rintro e w9 ⟨rfl, hb9⟩
        go_wp2
        go_ret
        exact ⟨retI (by have := FN.out; rw [L3.out]; simp only [if_true]; omega), HK.trans (hb9.mono HK.size)⟩
end Go.Proofs.YtkmchbllnfoccaaGreatDoor
/- The reference of layer 8: By360, By365, ByYears. -/
namespace Go.Proofs.YtkmchbllnfoccaaGreatDoor
open Go.RowKit
set_option linter.unusedVariables false
set_option linter.unusedSimpArgs false

theorem refnew8_is (n d p q c : Int) (w : World) (n0 : 0 ≤ n) (n1 : n < 9223372036854775808) (d0 : 0 < d) (d1 : d < 9223372036854775808) (h : rN n d = p ∧ rD n d = q ∧ rE n d = c) :
    Calls Tryz.prog 41 #[.int .i64 n, .int .i64 d] w fun e w' => e = .returned (.tuple #[.agg #[.int .i64 p, .int .i64 q], .int .i64 c]) ∧ Below w.heap.size w w' := by
  obtain ⟨rfl, rfl, rfl⟩ := h; exact refnew_any n d w n0 n1 d0 d1
theorem refadd8_is (an ad bn bd p q c : Int) (w : World) (ha : rightB an ad = true) (hb : rightB bn bd = true) (h : rN (an * bd + bn * ad) (ad * bd) = p ∧ rD (an * bd + bn * ad) (ad * bd) = q ∧ rE (an * bd + bn * ad) (ad * bd) = c) :
    Calls Tryz.prog 18 #[.agg #[.int .i64 an, .int .i64 ad], .agg #[.int .i64 bn, .int .i64 bd]] w fun e w' => e = .returned (.tuple #[.agg #[.int .i64 p, .int .i64 q], .int .i64 c]) ∧ Below w.heap.size w w' := by
  obtain ⟨rfl, rfl, rfl⟩ := h; exact refadd_any an ad bn bd w ha hb
theorem fit_den (x k : Int) (h0 : 0 ≤ x) (h : x ≤ 4000000000) (k0 : 0 < k) (k1 : k ≤ 200000) : fitB x k = true := by
  rw [fit_iff]
  have := m_le x k h0 (by omega)
  omega
/-- What is told of two days, by a number of parts of one. -/
def AcIs (X : Int → Int → Int → Int → Int → Int → Int) (k a b p q c : Int) : Prop :=
  (∃ y1 m1 d1 y2 m2 d2 : Int, may y1 m1 d1 ∧ nb y1 m1 d1 = a ∧ may y2 m2 d2 ∧ nb y2 m2 d2 = b ∧ a ≤ b ∧ rN (X y1 m1 d1 y2 m2 d2) k = p ∧ rD (X y1 m1 d1 y2 m2 d2) k = q ∧ c = 0)
  ∨ (((a < 1 ∨ 3652059 < a) ∨ (b < 1 ∨ 3652059 < b)) ∧ p = 0 ∧ q = 0 ∧ c = 3)
  ∨ ((1 ≤ a ∧ a ≤ 3652059) ∧ (1 ≤ b ∧ b ≤ 3652059) ∧ b < a ∧ p = 0 ∧ q = 0 ∧ c = 4)
def aX (y1 m1 d1 y2 m2 d2 : Int) : Int := nb y2 m2 d2 - nb y1 m1 d1
/-- The days in leap years. -/
def inX (y1 m1 d1 y2 m2 d2 : Int) : Int := lv y2 m2 d2 - lv y1 m1 d1
def yX (y1 m1 d1 y2 m2 d2 : Int) : Int := 365 * inX y1 m1 d1 y2 m2 d2 + 366 * (nb y2 m2 d2 - nb y1 m1 d1 - inX y1 m1 d1 y2 m2 d2)
theorem years_sum (i r : Int) (i0 : 0 ≤ i) (i1 : i ≤ 3700000) (r0 : 0 ≤ r) (r1 : r ≤ 3700000) :
    rightB (rN i 366) (rD i 366) = true ∧ rightB (rN r 365) (rD r 365) = true ∧
    rN (rN i 366 * rD r 365 + rN r 365 * rD i 366) (rD i 366 * rD r 365) = rN (365 * i + 366 * r) 133590 ∧
    rD (rN i 366 * rD r 365 + rN r 365 * rD i 366) (rD i 366 * rD r 365) = rD (365 * i + 366 * r) 133590 ∧
    rE (rN i 366 * rD r 365 + rN r 365 * rD i 366) (rD i 366 * rD r 365) = 0 := by
  have fa := fit_den i 366 i0 (by omega) (by decide) (by decide)
  have fb := fit_den r 365 r0 (by omega) (by decide) (by decide)
  have a := r_yes fa
  have b := r_yes fb
  rw [a.1, a.2.1, b.1, b.2.1]
  have c1 := m_cross i 366
  have c2 := m_cross r 365
  have p1 := mD_pos i 366 (by decide)
  have p2 := mD_pos r 365 (by decide)
  have e : (mN i 366 * mD r 365 + mN r 365 * mD i 366) * 133590 = (365 * i + 366 * r) * (mD i 366 * mD r 365) := by grind
  have k := r_eq (Int.mul_pos p1 p2) (show (0 : Int) < 133590 by decide) e
  exact ⟨r_right i0 (by decide) fa, r_right r0 (by decide) fb, k.1, k.2.1, k.2.2.trans (r_yes (fit_den (365 * i + 366 * r) 133590 (by omega) (by omega) (by decide) (by decide))).2.2⟩

set_option maxHeartbeats 1000000 in
theorem rby360_in (a b p q : Int) (w : World) (ha : 1 ≤ a ∧ a ≤ 3652059) (hb : 1 ≤ b ∧ b ≤ 3652059) (hab : a ≤ b) (hp : rN (b - a) 360 = p) (hq : rD (b - a) 360 = q) :
    Calls Tryz.prog 23 #[.int .i64 a, .int .i64 b] w fun e' w' => e' = .returned (.tuple #[.agg #[.int .i64 p, .int .i64 q], .int .i64 0]) ∧ Below w.heap.size w w' := by
  have H := Held.start w
  have W1 : Hid (WhyIs_ac a b 0) := Lib.hid (Or.inr (Or.inr ⟨ha, hb, hab, rfl⟩))
  have N1 : Hid (rN (b - a) 360 = p ∧ rD (b - a) 360 = q ∧ rE (b - a) 360 = 0) := Lib.hid ⟨hp, hq, (r_yes (fit_den (b - a) 360 (by omega) (by omega) (by decide) (by decide))).2.2⟩
  clear hp hq
  go_enter Tryz.func23, Tryz.ntmps23
  go_wp2_with fail
  replace H := (H.pair (w.heap.size) (.int .i64 0) (.int .i64 0) 29 rfl)
  (with_reducible refine (rwhy_any_ac a b 0 _ W1.out).mono ?_)
  rintro e w1 ⟨rfl, hb⟩
  replace H := H.below hb
  clear hb
  go_wp2_with fail
  (with_reducible refine (refnew8_is (b - a) 360 p q 0 _ (by omega) (by omega) (by decide) (by decide) N1.out).mono ?_)
  rintro e w2 ⟨rfl, hb⟩
  replace H := H.below hb
  clear hb
  have cz0 := H.cell (w.heap.size) 0 (.int .i64 0) (List.Mem.head _)
  have cz1 := H.cell (w.heap.size) 1 (.int .i64 0) (List.Mem.tail _ (List.Mem.head _))
  have lz := H.lt (w.heap.size) 0 (.int .i64 0) (List.Mem.head _)
  have fz0 := H.frozen (w.heap.size) 0 (List.Mem.tail _ (List.Mem.tail _ (List.Mem.head _)))
  have fz1 := H.frozen (w.heap.size) 1 (List.Mem.tail _ (List.Mem.tail _ (List.Mem.tail _ (List.Mem.head _))))
  have HK := H.old
  clear H
  go_wp2_with fail
  exact bodyPost_ret (v := .tuple #[.agg #[.int .i64 p, .int .i64 q], .int .i64 0]) (by simp [results, Tryz.results23, go_sem, cz0, cz1]) rfl ⟨rfl, (HK.setCell (by simp <;> omega) _).setCell (by simp <;> omega) _⟩

set_option maxHeartbeats 1000000 in
theorem rby360_day (a b : Int) (w : World) (h : (a < 1 ∨ 3652059 < a) ∨ (b < 1 ∨ 3652059 < b)) :
    Calls Tryz.prog 23 #[.int .i64 a, .int .i64 b] w fun e' w' => e' = .returned (.tuple #[.agg #[.int .i64 0, .int .i64 0], .int .i64 3]) ∧ Below w.heap.size w w' := by
  have H := Held.start w
  have W1 : Hid (WhyIs_ac a b 3) := Lib.hid (Or.inl ⟨h, rfl⟩)
  go_enter Tryz.func23, Tryz.ntmps23
  go_wp2_with fail
  replace H := (H.pair (w.heap.size) (.int .i64 0) (.int .i64 0) 29 rfl)
  (with_reducible refine (rwhy_any_ac a b 3 _ W1.out).mono ?_)
  rintro e w1 ⟨rfl, hb⟩
  replace H := H.below hb
  clear hb
  have cz0 := H.cell (w.heap.size) 0 (.int .i64 0) (List.Mem.head _)
  have cz1 := H.cell (w.heap.size) 1 (.int .i64 0) (List.Mem.tail _ (List.Mem.head _))
  have lz := H.lt (w.heap.size) 0 (.int .i64 0) (List.Mem.head _)
  have fz0 := H.frozen (w.heap.size) 0 (List.Mem.tail _ (List.Mem.tail _ (List.Mem.head _)))
  have fz1 := H.frozen (w.heap.size) 1 (List.Mem.tail _ (List.Mem.tail _ (List.Mem.tail _ (List.Mem.head _))))
  have HK := H.old
  clear H
  go_wp2_with fail
  exact bodyPost_ret (v := .tuple #[.agg #[.int .i64 0, .int .i64 0], .int .i64 3]) (by simp [results, Tryz.results23, go_sem, cz0, cz1]) rfl ⟨rfl, (HK.setCell (by simp <;> omega) _).setCell (by simp <;> omega) _⟩

set_option maxHeartbeats 1000000 in
theorem rby360_order (a b : Int) (w : World) (h1 : 1 ≤ a ∧ a ≤ 3652059) (h2 : 1 ≤ b ∧ b ≤ 3652059) (h : b < a) :
    Calls Tryz.prog 23 #[.int .i64 a, .int .i64 b] w fun e' w' => e' = .returned (.tuple #[.agg #[.int .i64 0, .int .i64 0], .int .i64 4]) ∧ Below w.heap.size w w' := by
  have H := Held.start w
  have W1 : Hid (WhyIs_ac a b 4) := Lib.hid (Or.inr (Or.inl ⟨h1, h2, h, rfl⟩))
  go_enter Tryz.func23, Tryz.ntmps23
  go_wp2_with fail
  replace H := (H.pair (w.heap.size) (.int .i64 0) (.int .i64 0) 29 rfl)
  (with_reducible refine (rwhy_any_ac a b 4 _ W1.out).mono ?_)
  rintro e w1 ⟨rfl, hb⟩
  replace H := H.below hb
  clear hb
  have cz0 := H.cell (w.heap.size) 0 (.int .i64 0) (List.Mem.head _)
  have cz1 := H.cell (w.heap.size) 1 (.int .i64 0) (List.Mem.tail _ (List.Mem.head _))
  have lz := H.lt (w.heap.size) 0 (.int .i64 0) (List.Mem.head _)
  have fz0 := H.frozen (w.heap.size) 0 (List.Mem.tail _ (List.Mem.tail _ (List.Mem.head _)))
  have fz1 := H.frozen (w.heap.size) 1 (List.Mem.tail _ (List.Mem.tail _ (List.Mem.tail _ (List.Mem.head _))))
  have HK := H.old
  clear H
  go_wp2_with fail
  exact bodyPost_ret (v := .tuple #[.agg #[.int .i64 0, .int .i64 0], .int .i64 4]) (by simp [results, Tryz.results23, go_sem, cz0, cz1]) rfl ⟨rfl, (HK.setCell (by simp <;> omega) _).setCell (by simp <;> omega) _⟩

theorem rby360_any (a b p q c : Int) (w : World) (h : AcIs aX 360 a b p q c) : Calls Tryz.prog 23 #[.int .i64 a, .int .i64 b] w fun e' w' => e' = .returned (.tuple #[.agg #[.int .i64 p, .int .i64 q], .int .i64 c]) ∧ Below w.heap.size w w' := by
  rcases h with ⟨y1, m1, d1, y2, m2, d2, h1, ha, h2, hb, hab, hp, hq, rfl⟩ | ⟨h, rfl, rfl, rfl⟩ | ⟨h1, h2, h, rfl, rfl, rfl⟩
  · have b1 := nb_bd _ _ _ h1
    have b2 := nb_bd _ _ _ h2
    unfold aX at hp hq
    rw [ha] at b1 hp hq
    rw [hb] at b2 hp hq
    exact rby360_in a b p q w b1 b2 hab hp hq
  · exact rby360_day a b w h
  · exact rby360_order a b w h1 h2 h

set_option maxHeartbeats 1000000 in
theorem rby365_in (a b p q : Int) (w : World) (ha : 1 ≤ a ∧ a ≤ 3652059) (hb : 1 ≤ b ∧ b ≤ 3652059) (hab : a ≤ b) (hp : rN (b - a) 365 = p) (hq : rD (b - a) 365 = q) :
    Calls Tryz.prog 24 #[.int .i64 a, .int .i64 b] w fun e' w' => e' = .returned (.tuple #[.agg #[.int .i64 p, .int .i64 q], .int .i64 0]) ∧ Below w.heap.size w w' := by
  have H := Held.start w
  have W1 : Hid (WhyIs_ac a b 0) := Lib.hid (Or.inr (Or.inr ⟨ha, hb, hab, rfl⟩))
  have N1 : Hid (rN (b - a) 365 = p ∧ rD (b - a) 365 = q ∧ rE (b - a) 365 = 0) := Lib.hid ⟨hp, hq, (r_yes (fit_den (b - a) 365 (by omega) (by omega) (by decide) (by decide))).2.2⟩
  clear hp hq
  go_enter Tryz.func24, Tryz.ntmps24
  go_wp2_with fail
  replace H := (H.pair (w.heap.size) (.int .i64 0) (.int .i64 0) 29 rfl)
  (with_reducible refine (rwhy_any_ac a b 0 _ W1.out).mono ?_)
  rintro e w1 ⟨rfl, hb⟩
  replace H := H.below hb
  clear hb
  go_wp2_with fail
  (with_reducible refine (refnew8_is (b - a) 365 p q 0 _ (by omega) (by omega) (by decide) (by decide) N1.out).mono ?_)
  rintro e w2 ⟨rfl, hb⟩
  replace H := H.below hb
  clear hb
  have cz0 := H.cell (w.heap.size) 0 (.int .i64 0) (List.Mem.head _)
  have cz1 := H.cell (w.heap.size) 1 (.int .i64 0) (List.Mem.tail _ (List.Mem.head _))
  have lz := H.lt (w.heap.size) 0 (.int .i64 0) (List.Mem.head _)
  have fz0 := H.frozen (w.heap.size) 0 (List.Mem.tail _ (List.Mem.tail _ (List.Mem.head _)))
  have fz1 := H.frozen (w.heap.size) 1 (List.Mem.tail _ (List.Mem.tail _ (List.Mem.tail _ (List.Mem.head _))))
  have HK := H.old
  clear H
  go_wp2_with fail
  exact bodyPost_ret (v := .tuple #[.agg #[.int .i64 p, .int .i64 q], .int .i64 0]) (by simp [results, Tryz.results24, go_sem, cz0, cz1]) rfl ⟨rfl, (HK.setCell (by simp <;> omega) _).setCell (by simp <;> omega) _⟩

set_option maxHeartbeats 1000000 in
theorem rby365_day (a b : Int) (w : World) (h : (a < 1 ∨ 3652059 < a) ∨ (b < 1 ∨ 3652059 < b)) :
    Calls Tryz.prog 24 #[.int .i64 a, .int .i64 b] w fun e' w' => e' = .returned (.tuple #[.agg #[.int .i64 0, .int .i64 0], .int .i64 3]) ∧ Below w.heap.size w w' := by
  have H := Held.start w
  have W1 : Hid (WhyIs_ac a b 3) := Lib.hid (Or.inl ⟨h, rfl⟩)
  go_enter Tryz.func24, Tryz.ntmps24
  go_wp2_with fail
  replace H := (H.pair (w.heap.size) (.int .i64 0) (.int .i64 0) 29 rfl)
  (with_reducible refine (rwhy_any_ac a b 3 _ W1.out).mono ?_)
  rintro e w1 ⟨rfl, hb⟩
  replace H := H.below hb
  clear hb
  have cz0 := H.cell (w.heap.size) 0 (.int .i64 0) (List.Mem.head _)
  have cz1 := H.cell (w.heap.size) 1 (.int .i64 0) (List.Mem.tail _ (List.Mem.head _))
  have lz := H.lt (w.heap.size) 0 (.int .i64 0) (List.Mem.head _)
  have fz0 := H.frozen (w.heap.size) 0 (List.Mem.tail _ (List.Mem.tail _ (List.Mem.head _)))
  have fz1 := H.frozen (w.heap.size) 1 (List.Mem.tail _ (List.Mem.tail _ (List.Mem.tail _ (List.Mem.head _))))
  have HK := H.old
  clear H
  go_wp2_with fail
  exact bodyPost_ret (v := .tuple #[.agg #[.int .i64 0, .int .i64 0], .int .i64 3]) (by simp [results, Tryz.results24, go_sem, cz0, cz1]) rfl ⟨rfl, (HK.setCell (by simp <;> omega) _).setCell (by simp <;> omega) _⟩

set_option maxHeartbeats 1000000 in
theorem rby365_order (a b : Int) (w : World) (h1 : 1 ≤ a ∧ a ≤ 3652059) (h2 : 1 ≤ b ∧ b ≤ 3652059) (h : b < a) :
    Calls Tryz.prog 24 #[.int .i64 a, .int .i64 b] w fun e' w' => e' = .returned (.tuple #[.agg #[.int .i64 0, .int .i64 0], .int .i64 4]) ∧ Below w.heap.size w w' := by
  have H := Held.start w
  have W1 : Hid (WhyIs_ac a b 4) := Lib.hid (Or.inr (Or.inl ⟨h1, h2, h, rfl⟩))
  go_enter Tryz.func24, Tryz.ntmps24
  go_wp2_with fail
  replace H := (H.pair (w.heap.size) (.int .i64 0) (.int .i64 0) 29 rfl)
  (with_reducible refine (rwhy_any_ac a b 4 _ W1.out).mono ?_)
  rintro e w1 ⟨rfl, hb⟩
  replace H := H.below hb
  clear hb
  have cz0 := H.cell (w.heap.size) 0 (.int .i64 0) (List.Mem.head _)
  have cz1 := H.cell (w.heap.size) 1 (.int .i64 0) (List.Mem.tail _ (List.Mem.head _))
  have lz := H.lt (w.heap.size) 0 (.int .i64 0) (List.Mem.head _)
  have fz0 := H.frozen (w.heap.size) 0 (List.Mem.tail _ (List.Mem.tail _ (List.Mem.head _)))
  have fz1 := H.frozen (w.heap.size) 1 (List.Mem.tail _ (List.Mem.tail _ (List.Mem.tail _ (List.Mem.head _))))
  have HK := H.old
  clear H
  go_wp2_with fail
  exact bodyPost_ret (v := .tuple #[.agg #[.int .i64 0, .int .i64 0], .int .i64 4]) (by simp [results, Tryz.results24, go_sem, cz0, cz1]) rfl ⟨rfl, (HK.setCell (by simp <;> omega) _).setCell (by simp <;> omega) _⟩

theorem rby365_any (a b p q c : Int) (w : World) (h : AcIs aX 365 a b p q c) : Calls Tryz.prog 24 #[.int .i64 a, .int .i64 b] w fun e' w' => e' = .returned (.tuple #[.agg #[.int .i64 p, .int .i64 q], .int .i64 c]) ∧ Below w.heap.size w w' := by
  rcases h with ⟨y1, m1, d1, y2, m2, d2, h1, ha, h2, hb, hab, hp, hq, rfl⟩ | ⟨h, rfl, rfl, rfl⟩ | ⟨h1, h2, h, rfl, rfl, rfl⟩
  · have b1 := nb_bd _ _ _ h1
    have b2 := nb_bd _ _ _ h2
    unfold aX at hp hq
    rw [ha] at b1 hp hq
    rw [hb] at b2 hp hq
    exact rby365_in a b p q w b1 b2 hab hp hq
  · exact rby365_day a b w h
  · exact rby365_order a b w h1 h2 h

set_option maxHeartbeats 1000000 in
theorem rbyyears_in (a b y1 m1 d1 y2 m2 d2 p q : Int) (w : World) (h1 : may y1 m1 d1) (ha : nb y1 m1 d1 = a) (h2 : may y2 m2 d2) (hb : nb y2 m2 d2 = b) (hab : a ≤ b) (hp : rN (yX y1 m1 d1 y2 m2 d2) 133590 = p) (hq : rD (yX y1 m1 d1 y2 m2 d2) 133590 = q) :
    Calls Tryz.prog 25 #[.int .i64 a, .int .i64 b] w fun e' w' => e' = .returned (.tuple #[.agg #[.int .i64 p, .int .i64 q], .int .i64 0]) ∧ Below w.heap.size w w' := by
  have H := Held.start w
  have b1 := nb_bd _ _ _ h1
  have b2 := nb_bd _ _ _ h2
  have le := lv_le _ _ _ _ _ _ h1 h2 (by omega)
  have v1 := lv_bd _ _ _ h1
  have v2 := lv_bd _ _ _ h2
  unfold yX inX at hp hq
  have C1 := Lib.hid (fun v => leaps_any a y1 m1 d1 v h1 ha)
  have C2 := Lib.hid (fun v => leaps_any b y2 m2 d2 v h2 hb)
  rw [ha, hb] at le hp hq
  rw [ha] at b1
  rw [hb] at b2
  obtain ⟨A, hA⟩ : ∃ A, lv y1 m1 d1 = A := ⟨_, rfl⟩
  obtain ⟨B, hB⟩ : ∃ B, lv y2 m2 d2 = B := ⟨_, rfl⟩
  rw [hA] at C1 le hp hq v1
  rw [hB] at C2 le hp hq v2
  have W1 : Hid (WhyIs_ac a b 0) := Lib.hid (Or.inr (Or.inr ⟨b1, b2, hab, rfl⟩))
  obtain ⟨s1, s2, s3, s4, s5⟩ := years_sum (B - A) (b - a - (B - A)) le.1 (by omega) (by omega) (by omega)
  rw [hp] at s3
  rw [hq] at s4
  have f1 := (r_yes (fit_den (B - A) 366 le.1 (by omega) (by decide) (by decide))).2.2
  have f2 := (r_yes (fit_den (b - a - (B - A)) 365 (by omega) (by omega) (by decide) (by decide))).2.2
  obtain ⟨p1, hp1⟩ : ∃ x, rN (B - A) 366 = x := ⟨_, rfl⟩
  obtain ⟨q1, hq1⟩ : ∃ x, rD (B - A) 366 = x := ⟨_, rfl⟩
  obtain ⟨p2, hp2⟩ : ∃ x, rN (b - a - (B - A)) 365 = x := ⟨_, rfl⟩
  obtain ⟨q2, hq2⟩ : ∃ x, rD (b - a - (B - A)) 365 = x := ⟨_, rfl⟩
  rw [hp1, hq1] at s1
  rw [hp2, hq2] at s2
  rw [hp1, hq1, hp2, hq2] at s3 s4 s5
  have N1 : Hid (rN (B - A) 366 = p1 ∧ rD (B - A) 366 = q1 ∧ rE (B - A) 366 = 0) := Lib.hid ⟨hp1, hq1, f1⟩
  have N2 : Hid (rN (b - a - (B - A)) 365 = p2 ∧ rD (b - a - (B - A)) 365 = q2 ∧ rE (b - a - (B - A)) 365 = 0) := Lib.hid ⟨hp2, hq2, f2⟩
  have S1 := Lib.hid (fun v => refadd8_is p1 q1 p2 q2 p q 0 v s1 s2 ⟨s3, s4, s5⟩)
  clear h1 h2 ha hb hp hq hA hB s1 s2 s3 s4 s5 f1 f2 hp1 hq1 hp2 hq2
  go_enter Tryz.func25, Tryz.ntmps25
  go_wp2_with fail
  replace H := (H.pair (w.heap.size) (.int .i64 0) (.int .i64 0) 29 rfl)
  (with_reducible refine (rwhy_any_ac a b 0 _ W1.out).mono ?_)
  rintro e w1 ⟨rfl, hb⟩
  replace H := H.below hb
  clear hb
  go_wp2_with fail
  (with_reducible refine (C2.out _).mono ?_)
  rintro e w2 ⟨rfl, hb⟩
  replace H := H.below hb
  clear hb
  go_wp2_with fail
  (with_reducible refine (C1.out _).mono ?_)
  rintro e w3 ⟨rfl, hb⟩
  replace H := H.below hb
  clear hb
  go_wp2_with fail
  (with_reducible refine (refnew8_is (B - A) 366 p1 q1 0 _ le.1 (by omega) (by decide) (by decide) N1.out).mono ?_)
  rintro e w4 ⟨rfl, hb⟩
  replace H := H.below hb
  clear hb
  go_wp2_with fail
  replace H := (H.pair (w4.heap.size) (.int .i64 p1) (.int .i64 q1) 29 rfl)
  (with_reducible refine (refnew8_is (b - a - (B - A)) 365 p2 q2 0 _ (by omega) (by omega) (by decide) (by decide) N2.out).mono ?_)
  rintro e w5 ⟨rfl, hb⟩
  replace H := H.below hb
  clear hb
  have cp0 := H.cell (w4.heap.size) 0 (.int .i64 p1) (List.Mem.head _)
  have cp1 := H.cell (w4.heap.size) 1 (.int .i64 q1) (List.Mem.tail _ (List.Mem.head _))
  have lp := H.lt (w4.heap.size) 0 (.int .i64 p1) (List.Mem.head _)
  go_wp2_with fail
  clear cp0 cp1 lp
  replace H := (H.pair (w5.heap.size) (.int .i64 p2) (.int .i64 q2) 29 rfl)
  (with_reducible refine (S1.out _).mono ?_)
  rintro e w6 ⟨rfl, hb⟩
  replace H := H.below hb
  clear hb
  have cz0 := H.cell (w.heap.size) 0 (.int .i64 0) (List.Mem.tail _ (List.Mem.tail _ (List.Mem.tail _ (List.Mem.tail _ (List.Mem.tail _ (List.Mem.tail _ (List.Mem.tail _ (List.Mem.tail _ (List.Mem.head _)))))))))
  have cz1 := H.cell (w.heap.size) 1 (.int .i64 0) (List.Mem.tail _ (List.Mem.tail _ (List.Mem.tail _ (List.Mem.tail _ (List.Mem.tail _ (List.Mem.tail _ (List.Mem.tail _ (List.Mem.tail _ (List.Mem.tail _ (List.Mem.head _))))))))))
  have lz := H.lt (w.heap.size) 0 (.int .i64 0) (List.Mem.tail _ (List.Mem.tail _ (List.Mem.tail _ (List.Mem.tail _ (List.Mem.tail _ (List.Mem.tail _ (List.Mem.tail _ (List.Mem.tail _ (List.Mem.head _)))))))))
  have fz0 := H.frozen (w.heap.size) 0 (List.Mem.tail _ (List.Mem.tail _ (List.Mem.tail _ (List.Mem.tail _ (List.Mem.tail _ (List.Mem.tail _ (List.Mem.tail _ (List.Mem.tail _ (List.Mem.tail _ (List.Mem.tail _ (List.Mem.head _)))))))))))
  have fz1 := H.frozen (w.heap.size) 1 (List.Mem.tail _ (List.Mem.tail _ (List.Mem.tail _ (List.Mem.tail _ (List.Mem.tail _ (List.Mem.tail _ (List.Mem.tail _ (List.Mem.tail _ (List.Mem.tail _ (List.Mem.tail _ (List.Mem.tail _ (List.Mem.head _))))))))))))
  have HK := H.old
  clear H
  go_wp2_with fail
  exact bodyPost_ret (v := .tuple #[.agg #[.int .i64 p, .int .i64 q], .int .i64 0]) (by simp [results, Tryz.results25, go_sem, cz0, cz1]) rfl ⟨rfl, (HK.setCell (by simp <;> omega) _).setCell (by simp <;> omega) _⟩

set_option maxHeartbeats 1000000 in
theorem rbyyears_day (a b : Int) (w : World) (h : (a < 1 ∨ 3652059 < a) ∨ (b < 1 ∨ 3652059 < b)) :
    Calls Tryz.prog 25 #[.int .i64 a, .int .i64 b] w fun e' w' => e' = .returned (.tuple #[.agg #[.int .i64 0, .int .i64 0], .int .i64 3]) ∧ Below w.heap.size w w' := by
  have H := Held.start w
  have W1 : Hid (WhyIs_ac a b 3) := Lib.hid (Or.inl ⟨h, rfl⟩)
  go_enter Tryz.func25, Tryz.ntmps25
  go_wp2_with fail
  replace H := (H.pair (w.heap.size) (.int .i64 0) (.int .i64 0) 29 rfl)
  (with_reducible refine (rwhy_any_ac a b 3 _ W1.out).mono ?_)
  rintro e w1 ⟨rfl, hb⟩
  replace H := H.below hb
  clear hb
  have cz0 := H.cell (w.heap.size) 0 (.int .i64 0) (List.Mem.head _)
  have cz1 := H.cell (w.heap.size) 1 (.int .i64 0) (List.Mem.tail _ (List.Mem.head _))
  have lz := H.lt (w.heap.size) 0 (.int .i64 0) (List.Mem.head _)
  have fz0 := H.frozen (w.heap.size) 0 (List.Mem.tail _ (List.Mem.tail _ (List.Mem.head _)))
  have fz1 := H.frozen (w.heap.size) 1 (List.Mem.tail _ (List.Mem.tail _ (List.Mem.tail _ (List.Mem.head _))))
  have HK := H.old
  clear H
  go_wp2_with fail
  exact bodyPost_ret (v := .tuple #[.agg #[.int .i64 0, .int .i64 0], .int .i64 3]) (by simp [results, Tryz.results25, go_sem, cz0, cz1]) rfl ⟨rfl, (HK.setCell (by simp <;> omega) _).setCell (by simp <;> omega) _⟩

set_option maxHeartbeats 1000000 in
theorem rbyyears_order (a b : Int) (w : World) (h1 : 1 ≤ a ∧ a ≤ 3652059) (h2 : 1 ≤ b ∧ b ≤ 3652059) (h : b < a) :
    Calls Tryz.prog 25 #[.int .i64 a, .int .i64 b] w fun e' w' => e' = .returned (.tuple #[.agg #[.int .i64 0, .int .i64 0], .int .i64 4]) ∧ Below w.heap.size w w' := by
  have H := Held.start w
  have W1 : Hid (WhyIs_ac a b 4) := Lib.hid (Or.inr (Or.inl ⟨h1, h2, h, rfl⟩))
  go_enter Tryz.func25, Tryz.ntmps25
  go_wp2_with fail
  replace H := (H.pair (w.heap.size) (.int .i64 0) (.int .i64 0) 29 rfl)
  (with_reducible refine (rwhy_any_ac a b 4 _ W1.out).mono ?_)
  rintro e w1 ⟨rfl, hb⟩
  replace H := H.below hb
  clear hb
  have cz0 := H.cell (w.heap.size) 0 (.int .i64 0) (List.Mem.head _)
  have cz1 := H.cell (w.heap.size) 1 (.int .i64 0) (List.Mem.tail _ (List.Mem.head _))
  have lz := H.lt (w.heap.size) 0 (.int .i64 0) (List.Mem.head _)
  have fz0 := H.frozen (w.heap.size) 0 (List.Mem.tail _ (List.Mem.tail _ (List.Mem.head _)))
  have fz1 := H.frozen (w.heap.size) 1 (List.Mem.tail _ (List.Mem.tail _ (List.Mem.tail _ (List.Mem.head _))))
  have HK := H.old
  clear H
  go_wp2_with fail
  exact bodyPost_ret (v := .tuple #[.agg #[.int .i64 0, .int .i64 0], .int .i64 4]) (by simp [results, Tryz.results25, go_sem, cz0, cz1]) rfl ⟨rfl, (HK.setCell (by simp <;> omega) _).setCell (by simp <;> omega) _⟩

theorem rbyyears_any (a b p q c : Int) (w : World) (h : AcIs yX 133590 a b p q c) : Calls Tryz.prog 25 #[.int .i64 a, .int .i64 b] w fun e' w' => e' = .returned (.tuple #[.agg #[.int .i64 p, .int .i64 q], .int .i64 c]) ∧ Below w.heap.size w w' := by
  rcases h with ⟨y1, m1, d1, y2, m2, d2, h1, ha, h2, hb, hab, hp, hq, rfl⟩ | ⟨h, rfl, rfl, rfl⟩ | ⟨h1, h2, h, rfl, rfl, rfl⟩
  · exact rbyyears_in a b y1 m1 d1 y2 m2 d2 p q w h1 ha h2 hb hab hp hq
  · exact rbyyears_day a b w h
  · exact rbyyears_order a b w h1 h2 h
end Go.Proofs.YtkmchbllnfoccaaGreatDoor
/- Parts of years by the days that are: they add up; a day more; 400 years on; a year's days. No program in this text but for the names of fractions. -/
namespace Go.Proofs.YtkmchbllnfoccaaGreatDoor
open Go.RowKit
set_option linter.unusedVariables false
set_option linter.unusedSimpArgs false

/-- A day's place among the days of a year tells how many days ahead of it are in leap years. -/
theorem lv_at (y j y' m' d' : Int) (h : may y' m' d') (hn : nb y' m' d' = ah y + j) (h1 : 1 ≤ j) (h2 : j ≤ yl y + 1) :
    lv y' m' d' = 366 * ly y + if lp y = true then j - 1 else 0 := by
  have a := in_year y' m' d' h
  have b : nb y' m' d' = ah y' + am y' m' + d' := rfl
  have s := ah_step y
  have ls := ly_step y
  by_cases k : y' < y
  · have := ah_lt y' y k; omega
  by_cases k2 : y' = y
  · subst k2
    have e : j = am y' m' + d' := by omega
    rw [e]; rfl
  · by_cases k3 : y + 1 < y'
    · have := ah_lt (y + 1) y' k3
      have := yl_bd (y + 1)
      omega
    · obtain rfl : y' = y + 1 := by omega
      have e : am (y + 1) m' + d' = 1 := by omega
      have hj : j = yl y + 1 := by omega
      unfold lv
      rw [ls, hj]
      unfold yl
      split <;> split <;> omega
theorem yX_next (y1 m1 d1 y m d y' m' d' : Int) (h : may y m d) (h' : may y' m' d') (hn : nb y' m' d' = nb y m d + 1) :
    yX y1 m1 d1 y' m' d' = yX y1 m1 d1 y m d + if lp y = true then 365 else 366 := by
  have a := in_year y m d h
  have b : nb y m d = ah y + am y m + d := rfl
  have e1 := lv_at y (am y m + d) y m d h (by omega) a.1 (by omega)
  have e2 := lv_at y (am y m + d + 1) y' m' d' h' (by omega) (by omega) (by omega)
  unfold yX inX
  rw [hn, e1, e2]
  split <;> omega
theorem yX_add (y1 m1 d1 y2 m2 d2 y3 m3 d3 : Int) : yX y1 m1 d1 y2 m2 d2 + yX y2 m2 d2 y3 m3 d3 = yX y1 m1 d1 y3 m3 d3 := by unfold yX inX; omega
theorem yX_bd (y1 m1 d1 y2 m2 d2 : Int) (h1 : may y1 m1 d1) (h2 : may y2 m2 d2) (h : nb y1 m1 d1 ≤ nb y2 m2 d2) :
    365 * (nb y2 m2 d2 - nb y1 m1 d1) ≤ yX y1 m1 d1 y2 m2 d2 ∧ yX y1 m1 d1 y2 m2 d2 ≤ 366 * (nb y2 m2 d2 - nb y1 m1 d1) ∧ 366 * (nb y2 m2 d2 - nb y1 m1 d1) ≤ 1400000000 := by
  have le := lv_le _ _ _ _ _ _ h1 h2 h
  have a := nb_bd _ _ _ h1
  have b := nb_bd _ _ _ h2
  unfold yX inX
  omega
theorem lv_era (y m d : Int) : lv (y + 400) m d = lv y m d + 366 * 97 := by
  have e : ly (y + 400) = ly y + 97 := by unfold ly; omega
  have f : am (y + 400) m = am y m := by unfold am; rw [lp_add]
  unfold lv
  rw [e, f, lp_add]
  split <;> omega
theorem yX_era (y1 m1 d1 y2 m2 d2 : Int) : yX (y1 + 400) m1 d1 (y2 + 400) m2 d2 = yX y1 m1 d1 y2 m2 d2 := by
  unfold yX inX; rw [lv_era, lv_era, nb_era, nb_era]; omega
theorem ac_right (x k : Int) (h0 : 0 ≤ x) (h1 : x ≤ 4000000000) (k0 : 0 < k) (k1 : k ≤ 200000) : rightB (rN x k) (rD x k) = true := by
  have f := fit_den x k h0 h1 k0 k1
  have y := r_yes f
  rw [y.1, y.2.1]
  exact r_right h0 k0 f
theorem ac_add (x y k : Int) (x0 : 0 ≤ x) (y0 : 0 ≤ y) (s : x + y ≤ 4000000000) (k0 : 0 < k) (k1 : k ≤ 200000) :
    rN (rN x k * rD y k + rN y k * rD x k) (rD x k * rD y k) = rN (x + y) k ∧ rD (rN x k * rD y k + rN y k * rD x k) (rD x k * rD y k) = rD (x + y) k ∧ rE (rN x k * rD y k + rN y k * rD x k) (rD x k * rD y k) = 0 := by
  have a := r_yes (fit_den x k x0 (by omega) k0 k1)
  have b := r_yes (fit_den y k y0 (by omega) k0 k1)
  rw [a.1, a.2.1, b.1, b.2.1]
  have c1 := m_cross x k
  have c2 := m_cross y k
  have p1 := mD_pos x k k0
  have p2 := mD_pos y k k0
  have e : (mN x k * mD y k + mN y k * mD x k) * k = (x + y) * (mD x k * mD y k) := by grind
  have r := r_eq (Int.mul_pos p1 p2) k0 e
  exact ⟨r.1, r.2.1, r.2.2.trans (r_yes (fit_den (x + y) k (by omega) s k0 k1)).2.2⟩
/-- A part that is increased by one of n. -/
theorem ac_one (x k n e : Int) (x0 : 0 ≤ x) (s : x + e ≤ 4000000000) (k0 : 0 < k) (k1 : k ≤ 200000) (n0 : 0 < n) (e0 : 0 ≤ e) (h : e * n = k) :
    rN (rN x k * n + 1 * rD x k) (rD x k * n) = rN (x + e) k ∧ rD (rN x k * n + 1 * rD x k) (rD x k * n) = rD (x + e) k ∧ rE (rN x k * n + 1 * rD x k) (rD x k * n) = 0 := by
  have a := r_yes (fit_den x k x0 (by omega) k0 k1)
  rw [a.1, a.2.1]
  have c1 := m_cross x k
  have p1 := mD_pos x k k0
  have e : (mN x k * n + 1 * mD x k) * k = (x + e) * (mD x k * n) := by grind
  have r := r_eq (Int.mul_pos p1 n0) k0 e
  exact ⟨r.1, r.2.1, r.2.2.trans (r_yes (fit_den (x + _) k (by omega) s k0 k1)).2.2⟩
theorem ac_is (X : Int → Int → Int → Int → Int → Int → Int) (k a b : Int) : ∃ p q c, AcIs X k a b p q c := by
  by_cases h : (a < 1 ∨ 3652059 < a) ∨ (b < 1 ∨ 3652059 < b)
  · exact ⟨0, 0, 3, Or.inr (Or.inl ⟨h, rfl, rfl, rfl⟩)⟩
  · by_cases h2 : b < a
    · exact ⟨0, 0, 4, Or.inr (Or.inr ⟨by omega, by omega, h2, rfl, rfl, rfl⟩)⟩
    · obtain ⟨y1, m1, d1, a1, a2⟩ := day_of a (by omega) (by omega)
      obtain ⟨y2, m2, d2, b1, b2⟩ := day_of b (by omega) (by omega)
      exact ⟨_, _, 0, Or.inl ⟨y1, m1, d1, y2, m2, d2, a1, a2, b1, b2, by omega, rfl, rfl, rfl⟩⟩
theorem ac_days (a b k : Int) (h1 : 1 ≤ a ∧ a ≤ 3652059) (h2 : 1 ≤ b ∧ b ≤ 3652059) (h : a ≤ b) : AcIs aX k a b (rN (b - a) k) (rD (b - a) k) 0 := by
  obtain ⟨y1, m1, d1, a1, a2⟩ := day_of a h1.1 h1.2
  obtain ⟨y2, m2, d2, b1, b2⟩ := day_of b h2.1 h2.2
  exact Or.inl ⟨y1, m1, d1, y2, m2, d2, a1, a2, b1, b2, h, by unfold aX; rw [a2, b2], by unfold aX; rw [a2, b2], rfl⟩
theorem ac_years {a b : Int} (y1 m1 d1 y2 m2 d2 x : Int) (h1 : may y1 m1 d1) (ha : nb y1 m1 d1 = a) (h2 : may y2 m2 d2) (hb : nb y2 m2 d2 = b) (h : a ≤ b) (hx : yX y1 m1 d1 y2 m2 d2 = x) : AcIs yX 133590 a b (rN x 133590) (rD x 133590) 0 :=
  Or.inl ⟨y1, m1, d1, y2, m2, d2, h1, ha, h2, hb, h, by rw [hx], by rw [hx], rfl⟩
theorem ac_in {X : Int → Int → Int → Int → Int → Int → Int} {k a b p q : Int} (y1 m1 d1 y2 m2 d2 : Int) (h1 : may y1 m1 d1) (ha : nb y1 m1 d1 = a) (h2 : may y2 m2 d2) (hb : nb y2 m2 d2 = b) (h : a ≤ b) (hp : rN (X y1 m1 d1 y2 m2 d2) k = p) (hq : rD (X y1 m1 d1 y2 m2 d2) k = q) : AcIs X k a b p q 0 :=
  Or.inl ⟨y1, m1, d1, y2, m2, d2, h1, ha, h2, hb, h, hp, hq, rfl⟩
theorem ac_out {X : Int → Int → Int → Int → Int → Int → Int} {k a b : Int} (h : (a < 1 ∨ 3652059 < a) ∨ (b < 1 ∨ 3652059 < b)) : AcIs X k a b 0 0 3 := Or.inr (Or.inl ⟨h, rfl, rfl, rfl⟩)
theorem ac_order {X : Int → Int → Int → Int → Int → Int → Int} {k a b : Int} (h1 : 1 ≤ a ∧ a ≤ 3652059) (h2 : 1 ≤ b ∧ b ≤ 3652059) (h : b < a) : AcIs X k a b 0 0 4 := Or.inr (Or.inr ⟨h1, h2, h, rfl, rfl, rfl⟩)
end Go.Proofs.YtkmchbllnfoccaaGreatDoor
/- What the two errors of package actual are while a call goes on; what errors.Is tells of one, wrapped by a refusal or not there at all; the code of it. -/
namespace Go.Proofs.YtkmchbllnfoccaaGreatDoor
open Go.RowKit Go.Extern.Stop Go.Stop Go.Extern
set_option linter.unusedVariables false
set_option linter.unusedSimpArgs false

/-- Both errors stand, apart from each other. -/
def ErrAt (a0 a1 : Addr) (w : World) : Prop := ∃ (c0 c1 : Array Value) (t0 t1 : TypeId),
  w.cell? ⟨0, 0, none⟩ = some (.iface 199 (.pointer (some a0))) ∧ w.cell? ⟨1, 0, none⟩ = some (.iface 199 (.pointer (some a1))) ∧ a0 ≠ a1 ∧
  w.heap[a0.block]? = some (.cells c0 t0 (0, 0)) ∧ w.heap[a1.block]? = some (.cells c1 t1 (0, 0))
theorem row_lt {W : World} {b : Nat} {o : Obj} (h : W.heap[b]? = some o) : b < W.heap.size := by
  rcases Nat.lt_or_ge b W.heap.size with k | k
  · exact k
  · rw [Array.getElem?_eq_none k] at h; cases h
theorem ErrAt.below {a0 a1 : Addr} {W W' : World} (h : ErrAt a0 a1 W) (hb : Below W.heap.size W W') : ErrAt a0 a1 W' := by
  obtain ⟨c0, c1, t0, t1, h0, h1, hne, r0, r1⟩ := h
  exact ⟨c0, c1, t0, t1, keep hb (cell_lt h0) h0, keep hb (cell_lt h1) h1, hne, (hb.block _ (row_lt r0)).trans r0, (hb.block _ (row_lt r1)).trans r1⟩
def Errs_ac (w : World) : Prop := ∃ a0 a1, ErrAt a0 a1 w
theorem Errs_ac.below {W W' : World} (h : Errs_ac W) (hb : Below W.heap.size W W') : Errs_ac W' := by
  obtain ⟨a0, a1, h⟩ := h; exact ⟨a0, a1, h.below hb⟩
/-- The fact that they stand. -/
def errF_ac (a0 a1 : Addr) : Fact := .that (ErrAt a0 a1) (fun _ _ hb h => h.below hb)

/-! What 'reflectlite.TypeOf(target).Comparable()' gives at such a target; what errors.is's assertions find. -/
theorem isTypeOf (v : Value) (w : World) : (Extern.ReflectliteType.typeOf #[.iface 199 v]).run Tryz.prog w = .ok (.iface 167 (.agg #[.pointer (some ⟨13, 199, none⟩)])) w := by kernel_rfl
theorem callComparable (w : World) : (callFunc 161 #[.agg #[.pointer (some ⟨13, 199, none⟩)]]).run Tryz.prog w = .ok (.value (.bool true)) w :=
  (run_callFunc_extern (e := Extern.ReflectliteType.method fun t => do Extern.Rtype.noPackHeld "Comparable" t; pure (Value.bool (← typeInfo t).comparable)) Tryz.func161 (by kernel_rfl) (by kernel_rfl) (by kernel_rfl) (by kernel_rfl) _ w).trans (by kernel_rfl)
theorem isMethodComparable (v : Value) (w : World) : (Go.method 332 167 v "Comparable").run Tryz.prog w = .ok (161, v) w := by kernel_rfl
theorem isComp : (Tryz.prog.info? 199).map (·.comparable) = some true := by kernel_rfl
theorem isSize : (Tryz.prog.info? 220).map (·.size) = some 1 := by kernel_rfl
theorem noIsE (v : Value) (xT : TypeId) (w : World) : (Instr.typeAssert (.iface 199 v) xT 169 true).run Tryz.prog w = .ok (.tuple #[.nilIface, .bool false]) w := run_typeAssert_lacksB Tryz.underlying169 (by kernel_rfl) (by kernel_rfl) v xT w
theorem noUnwrapE (v : Value) (xT : TypeId) (w : World) : (Instr.typeAssert (.iface 199 v) xT 172 true).run Tryz.prog w = .ok (.tuple #[.nilIface, .bool false]) w := run_typeAssert_lacksB Tryz.underlying172 (by kernel_rfl) (by kernel_rfl) v xT w
theorem noUnwrapsE (v : Value) (xT : TypeId) (w : World) : (Instr.typeAssert (.iface 199 v) xT 174 true).run Tryz.prog w = .ok (.tuple #[.nilIface, .bool false]) w := run_typeAssert_lacksB Tryz.underlying174 (by kernel_rfl) (by kernel_rfl) v xT w
theorem noIsR (v : Value) (xT : TypeId) (w : World) : (Instr.typeAssert (.iface 123 v) xT 169 true).run Tryz.prog w = .ok (.tuple #[.nilIface, .bool false]) w := run_typeAssert_lacksB Tryz.underlying169 (by kernel_rfl) (by kernel_rfl) v xT w
theorem hasUnwrapR (v : Value) (xT : TypeId) (w : World) : (Instr.typeAssert (.iface 123 v) xT 172 true).run Tryz.prog w = .ok (.tuple #[.iface 123 v, .bool true]) w := run_typeAssert_hasB Tryz.underlying172 (by kernel_rfl) v xT w
theorem methodUnwrapR (v : Value) (w : World) : (Go.method 332 123 v "Unwrap").run Tryz.prog w = .ok (156, v) w := by kernel_rfl

/-- The error behind a refusal. -/
theorem unwrap_any (s : ByteArray) (e : Value) (w : World) : Calls Tryz.prog 156 #[.agg #[.string s, e]] w fun r w' => r = .returned e ∧ Below w.heap.size w w' := by
  go_enter Tryz.func156, Tryz.ntmps156
  go_wp2
  go_ret
  exact ⟨rfl, (Below.refl _ _).alloc (Nat.le_refl _) _⟩

/-- No error at all. -/
theorem is_nil (b : Addr) (w : World) : Calls Tryz.prog 84 #[.nilIface, .iface 199 (.pointer (some b))] w fun e w' => e = .returned (.bool false) ∧ Below w.heap.size w w' := by
  have hn := run_eql_iface_nil_left (P := Tryz.prog) w 199 (.pointer (some b)) Tryz.underlying110
  go_enter Tryz.func84, Tryz.ntmps84
  go_wp2
  go_ret
  exact ⟨rfl, Below.refl _ _⟩

set_option maxHeartbeats 1000000 in
/-- The very error, wrapped. -/
theorem is_yes (s : ByteArray) (a b : Addr) (w : World) (h : a = b) : Calls Tryz.prog 84 #[.iface 123 (.agg #[.string s, .iface 199 (.pointer (some a))]), .iface 199 (.pointer (some b))] w fun e w' => e = .returned (.bool true) ∧ Below w.heap.size w w' := by
  obtain ⟨i, hi, hcmp⟩ := Option.map_eq_some_iff.1 isComp
  obtain ⟨j, hj, hjs⟩ := Option.map_eq_some_iff.1 isSize
  have hT := @run_callFunc_extern Tryz.prog 102 _ Extern.ReflectliteType.typeOf Tryz.func102 (by kernel_rfl) (by kernel_rfl) (by kernel_rfl) (by kernel_rfl)
  have hC := callComparable
  have tT := isTypeOf
  have mR := isMethodComparable
  have nE := noIsE
  have uE := noUnwrapE
  have vE := noUnwrapsE
  have nW := noIsR
  have uW := hasUnwrapR
  have mU := methodUnwrapR
  subst h
  have heq := fun v => run_eql_iface_ptr_same (P := Tryz.prog) v a Tryz.underlying110 Tryz.underlying199 hi hcmp hj
  have hty := fun v => run_eql_iface_types (P := Tryz.prog) 123 199 (.agg #[.string s, .iface 199 (.pointer (some a))]) (.pointer (some a)) Tryz.underlying110 (by decide) v
  go_enter Tryz.func84, Tryz.ntmps84
  go_wp2
  refine wp_loop_rounds 2 ?_
  rw [rounds_succ]
  go_wp2
  rw [rounds_succ]
  go_wp2
  go_ret
  exact ⟨rfl, (Below.refl _ _).alloc (Nat.le_refl _) _⟩

set_option maxHeartbeats 1000000 in
/-- Another error, wrapped. -/
theorem is_no (s : ByteArray) (a b : Addr) (w : World) (ca cb : Array Value) (ta tb : TypeId) (hne : a ≠ b) (ha : w.heap[a.block]? = some (.cells ca ta (0, 0))) (hb : w.heap[b.block]? = some (.cells cb tb (0, 0))) : Calls Tryz.prog 84 #[.iface 123 (.agg #[.string s, .iface 199 (.pointer (some a))]), .iface 199 (.pointer (some b))] w fun e w' => e = .returned (.bool false) ∧ Below w.heap.size w w' := by
  obtain ⟨i, hi, hcmp⟩ := Option.map_eq_some_iff.1 isComp
  obtain ⟨j, hj, hjs⟩ := Option.map_eq_some_iff.1 isSize
  have hT := @run_callFunc_extern Tryz.prog 102 _ Extern.ReflectliteType.typeOf Tryz.func102 (by kernel_rfl) (by kernel_rfl) (by kernel_rfl) (by kernel_rfl)
  have hC := callComparable
  have tT := isTypeOf
  have mR := isMethodComparable
  have nE := noIsE
  have uE := noUnwrapE
  have vE := noUnwrapsE
  have nW := noIsR
  have uW := hasUnwrapR
  have mU := methodUnwrapR
  have B : Below w.heap.size w (w.alloc (.cells #[.string s, .iface 199 (.pointer (some a))] 123)) := (Below.refl _ _).alloc (Nat.le_refl _) _
  have heq := run_eql_iface_ptr_other (P := Tryz.prog) (w.alloc (.cells #[.string s, .iface 199 (.pointer (some a))] 123)) Tryz.underlying110 Tryz.underlying199 hi hcmp hj (by rw [hjs]; decide) hne ((B.block _ (row_lt ha)).trans ha) ((B.block _ (row_lt hb)).trans hb)
  clear B
  have hty := fun v => run_eql_iface_types (P := Tryz.prog) 123 199 (.agg #[.string s, .iface 199 (.pointer (some a))]) (.pointer (some b)) Tryz.underlying110 (by decide) v
  go_enter Tryz.func84, Tryz.ntmps84
  go_wp2
  refine wp_loop_rounds 2 ?_
  rw [rounds_succ]
  go_wp2
  rw [rounds_succ]
  go_wp2
  go_ret
  exact ⟨rfl, (Below.refl _ _).alloc (Nat.le_refl _) _⟩

/-- None. -/
theorem code_nil_ac (a0 a1 : Addr) (w : World) (h : ErrAt a0 a1 w) : Calls Tryz.prog 72 #[.nilIface] w fun e w' => e = .returned (.int .i64 0) ∧ Below w.heap.size w w' := by
  have H := (Held.start w).add (f := errF_ac a0 a1) h
  clear h
  go_enter Tryz.func72, Tryz.ntmps72
  obtain ⟨c0, c1, t0, t1, h0, h1, hne, r0, r1⟩ := (show ErrAt a0 a1 w from H.all _ (List.Mem.head _))
  go_wp2_with fail
  (with_reducible refine (is_nil a0 _).mono ?_)
  rintro e w1 ⟨rfl, hb⟩
  replace H := H.below hb
  clear hb
  obtain ⟨d0, d1, s0, s1, g0, g1, -, q0, q1⟩ := (show ErrAt a0 a1 w1 from H.all _ (List.Mem.head _))
  go_wp2_with fail
  (with_reducible refine (is_nil a1 _).mono ?_)
  rintro e w2 ⟨rfl, hb⟩
  replace H := H.below hb
  clear hb
  go_wp2_with fail
  go_ret
  exact ⟨rfl, H.old⟩

/-- A day that is none. -/
theorem code_day (s : ByteArray) (a0 a1 : Addr) (w : World) (h : ErrAt a0 a1 w) : Calls Tryz.prog 72 #[.iface 123 (.agg #[.string s, .iface 199 (.pointer (some a0))])] w fun e w' => e = .returned (.int .i64 3) ∧ Below w.heap.size w w' := by
  have H := (Held.start w).add (f := errF_ac a0 a1) h
  clear h
  go_enter Tryz.func72, Tryz.ntmps72
  obtain ⟨c0, c1, t0, t1, h0, h1, hne, r0, r1⟩ := (show ErrAt a0 a1 w from H.all _ (List.Mem.head _))
  go_wp2_with fail
  (with_reducible refine (is_yes s a0 a0 _ rfl).mono ?_)
  rintro e w1 ⟨rfl, hb⟩
  replace H := H.below hb
  clear hb
  go_wp2_with fail
  go_ret
  exact ⟨rfl, H.old⟩

/-- The wrong way round. -/
theorem code_order (s : ByteArray) (a0 a1 : Addr) (w : World) (h : ErrAt a0 a1 w) : Calls Tryz.prog 72 #[.iface 123 (.agg #[.string s, .iface 199 (.pointer (some a1))])] w fun e w' => e = .returned (.int .i64 4) ∧ Below w.heap.size w w' := by
  have H := (Held.start w).add (f := errF_ac a0 a1) h
  clear h
  go_enter Tryz.func72, Tryz.ntmps72
  obtain ⟨c0, c1, t0, t1, h0, h1, hne, r0, r1⟩ := (show ErrAt a0 a1 w from H.all _ (List.Mem.head _))
  go_wp2_with fail
  (with_reducible refine (is_no s a1 a0 _ c1 c0 t1 t0 (Ne.symm hne) r1 r0).mono ?_)
  rintro e w1 ⟨rfl, hb⟩
  replace H := H.below hb
  clear hb
  obtain ⟨d0, d1, s0, s1, g0, g1, -, q0, q1⟩ := (show ErrAt a0 a1 w1 from H.all _ (List.Mem.head _))
  go_wp2_with fail
  (with_reducible refine (is_yes s a1 a1 _ rfl).mono ?_)
  rintro e w2 ⟨rfl, hb⟩
  replace H := H.below hb
  clear hb
  go_wp2_with fail
  go_ret
  exact ⟨rfl, H.old⟩
end Go.Proofs.YtkmchbllnfoccaaGreatDoor
/- Package actual: the days between two days, or why there are none. -/
namespace Go.Proofs.YtkmchbllnfoccaaGreatDoor
open Go.RowKit
set_option linter.unusedVariables false
set_option linter.unusedSimpArgs false

set_option maxHeartbeats 1000000 in
set_option maxRecDepth 100000 in
theorem bet_day1 (a b : Int) (a0 a1 : Addr) (w : World) (hL : Lens w) (hE : ErrAt a0 a1 w) (h1 : a < 1 ∨ 3652059 < a) : Calls Tryz.prog 71 #[.int .i64 a, .int .i64 b] w fun e' w' => (∃ s, e' = .returned (.tuple #[.agg #[.int .i64 0, .int .i64 0, .int .i64 0, .int .i64 0], .iface 123 (.agg #[.string s, .iface 199 (.pointer (some a0))])])) ∧ Below w.heap.size w w' := by
  have H := ((Held.start w).add (f := lensF) hL).add (f := errF_ac a0 a1) hE
  have kw : 0 < w.heap.size ∧ 1 < w.heap.size := by obtain ⟨_, _, _, _, k0, k1, _⟩ := hE; exact ⟨cell_lt k0, cell_lt k1⟩
  obtain ⟨kw0, kw1⟩ := kw
  clear hL hE
  have O1 : Hid (DayIs a 0 0 0 3) := Lib.hid (Or.inr ⟨h1, rfl, rfl, rfl, rfl⟩)
  clear h1
  go_enter Tryz.func71, Tryz.ntmps71
  go_wp2_with fail
  replace H := (H.quad (w.heap.size) (.int .i64 0) (.int .i64 0) (.int .i64 0) (.int .i64 0) 108 rfl)
  (with_reducible refine (civ_any a 0 0 0 3 _ (H.lens (List.Mem.tail _ (List.Mem.tail _ (List.Mem.tail _ (List.Mem.tail _ (List.Mem.tail _ (List.Mem.tail _ (List.Mem.tail _ (List.Mem.tail _ (List.Mem.tail _ (List.Mem.head _))))))))))) O1.out).mono ?_)
  rintro e w1 ⟨rfl, hb⟩
  replace H := H.below hb
  clear hb
  have cz0 := H.cell (w.heap.size) 0 (.int .i64 0) (List.Mem.head _)
  have cz1 := H.cell (w.heap.size) 1 (.int .i64 0) (List.Mem.tail _ (List.Mem.head _))
  have cz2 := H.cell (w.heap.size) 2 (.int .i64 0) (List.Mem.tail _ (List.Mem.tail _ (List.Mem.head _)))
  have cz3 := H.cell (w.heap.size) 3 (.int .i64 0) (List.Mem.tail _ (List.Mem.tail _ (List.Mem.tail _ (List.Mem.head _))))
  have lz := H.lt (w.heap.size) 0 (.int .i64 0) (List.Mem.head _)
  have fz0 := H.frozen (w.heap.size) 0 (List.Mem.tail _ (List.Mem.tail _ (List.Mem.tail _ (List.Mem.tail _ (List.Mem.head _)))))
  have fz1 := H.frozen (w.heap.size) 1 (List.Mem.tail _ (List.Mem.tail _ (List.Mem.tail _ (List.Mem.tail _ (List.Mem.tail _ (List.Mem.head _))))))
  have fz2 := H.frozen (w.heap.size) 2 (List.Mem.tail _ (List.Mem.tail _ (List.Mem.tail _ (List.Mem.tail _ (List.Mem.tail _ (List.Mem.tail _ (List.Mem.head _)))))))
  have fz3 := H.frozen (w.heap.size) 3 (List.Mem.tail _ (List.Mem.tail _ (List.Mem.tail _ (List.Mem.tail _ (List.Mem.tail _ (List.Mem.tail _ (List.Mem.tail _ (List.Mem.head _))))))))
  obtain ⟨c0, c1, t0, t1, h0, h1, hne, r0, r1⟩ := (show ErrAt a0 a1 w1 from H.all _ (List.Mem.tail _ (List.Mem.tail _ (List.Mem.tail _ (List.Mem.tail _ (List.Mem.tail _ (List.Mem.tail _ (List.Mem.tail _ (List.Mem.tail _ (List.Mem.head _))))))))))
  have HK := H.old
  have lg0 := cell_lt h0
  have lg1 := cell_lt h1
  clear H r0 r1 hne
  go_wp2
  go_region
  all_goals go_wp2
  all_goals exact bodyPost_ret (v := .tuple #[.agg #[.int .i64 0, .int .i64 0, .int .i64 0, .int .i64 0], .iface 123 (.agg #[.string _, .iface 199 (.pointer (some a0))])]) (by simp [results, Tryz.results71, go_sem, cz0, cz1, cz2, cz3, lz]; rfl) rfl ⟨⟨_, rfl⟩, by repeat (first | exact HK | refine Below.drew ?_ | refine Below.setCell ?_ (by simp <;> omega) _ | refine Below.alloc ?_ (by simp <;> omega) _)⟩

set_option maxHeartbeats 1000000 in
set_option maxRecDepth 100000 in
theorem bet_day2 (a b y1 m1 d1 : Int) (a0 a1 : Addr) (w : World) (hL : Lens w) (hE : ErrAt a0 a1 w) (h1 : may y1 m1 d1) (e1 : nb y1 m1 d1 = a) (h2 : b < 1 ∨ 3652059 < b) : Calls Tryz.prog 71 #[.int .i64 a, .int .i64 b] w fun e' w' => (∃ s, e' = .returned (.tuple #[.agg #[.int .i64 0, .int .i64 0, .int .i64 0, .int .i64 0], .iface 123 (.agg #[.string s, .iface 199 (.pointer (some a0))])])) ∧ Below w.heap.size w w' := by
  have H := ((Held.start w).add (f := lensF) hL).add (f := errF_ac a0 a1) hE
  have kw : 0 < w.heap.size ∧ 1 < w.heap.size := by obtain ⟨_, _, _, _, k0, k1, _⟩ := hE; exact ⟨cell_lt k0, cell_lt k1⟩
  obtain ⟨kw0, kw1⟩ := kw
  clear hL hE
  have O1 : Hid (DayIs a y1 m1 d1 0) := Lib.hid (Or.inl ⟨h1, e1, rfl⟩)
  have O2 : Hid (DayIs b 0 0 0 3) := Lib.hid (Or.inr ⟨h2, rfl, rfl, rfl, rfl⟩)
  clear h1 e1 h2
  go_enter Tryz.func71, Tryz.ntmps71
  go_wp2_with fail
  replace H := (H.quad (w.heap.size) (.int .i64 0) (.int .i64 0) (.int .i64 0) (.int .i64 0) 108 rfl)
  (with_reducible refine (civ_any a y1 m1 d1 0 _ (H.lens (List.Mem.tail _ (List.Mem.tail _ (List.Mem.tail _ (List.Mem.tail _ (List.Mem.tail _ (List.Mem.tail _ (List.Mem.tail _ (List.Mem.tail _ (List.Mem.tail _ (List.Mem.head _))))))))))) O1.out).mono ?_)
  rintro e w1 ⟨rfl, hb⟩
  replace H := H.below hb
  clear hb
  go_wp2_with fail
  replace H := (H.triple (w1.heap.size) (.int .i64 y1) (.int .i64 m1) (.int .i64 d1) 78 rfl)
  (with_reducible refine (civ_any b 0 0 0 3 _ (H.lens (List.Mem.tail _ (List.Mem.tail _ (List.Mem.tail _ (List.Mem.tail _ (List.Mem.tail _ (List.Mem.tail _ (List.Mem.tail _ (List.Mem.tail _ (List.Mem.tail _ (List.Mem.tail _ (List.Mem.tail _ (List.Mem.tail _ (List.Mem.tail _ (List.Mem.tail _ (List.Mem.tail _ (List.Mem.head _))))))))))))))))) O2.out).mono ?_)
  rintro e w2 ⟨rfl, hb⟩
  replace H := H.below hb
  clear hb
  have cz0 := H.cell (w.heap.size) 0 (.int .i64 0) (List.Mem.tail _ (List.Mem.tail _ (List.Mem.tail _ (List.Mem.tail _ (List.Mem.tail _ (List.Mem.tail _ (List.Mem.head _)))))))
  have cz1 := H.cell (w.heap.size) 1 (.int .i64 0) (List.Mem.tail _ (List.Mem.tail _ (List.Mem.tail _ (List.Mem.tail _ (List.Mem.tail _ (List.Mem.tail _ (List.Mem.tail _ (List.Mem.head _))))))))
  have cz2 := H.cell (w.heap.size) 2 (.int .i64 0) (List.Mem.tail _ (List.Mem.tail _ (List.Mem.tail _ (List.Mem.tail _ (List.Mem.tail _ (List.Mem.tail _ (List.Mem.tail _ (List.Mem.tail _ (List.Mem.head _)))))))))
  have cz3 := H.cell (w.heap.size) 3 (.int .i64 0) (List.Mem.tail _ (List.Mem.tail _ (List.Mem.tail _ (List.Mem.tail _ (List.Mem.tail _ (List.Mem.tail _ (List.Mem.tail _ (List.Mem.tail _ (List.Mem.tail _ (List.Mem.head _))))))))))
  have lz := H.lt (w.heap.size) 0 (.int .i64 0) (List.Mem.tail _ (List.Mem.tail _ (List.Mem.tail _ (List.Mem.tail _ (List.Mem.tail _ (List.Mem.tail _ (List.Mem.head _)))))))
  have fz0 := H.frozen (w.heap.size) 0 (List.Mem.tail _ (List.Mem.tail _ (List.Mem.tail _ (List.Mem.tail _ (List.Mem.tail _ (List.Mem.tail _ (List.Mem.tail _ (List.Mem.tail _ (List.Mem.tail _ (List.Mem.tail _ (List.Mem.head _)))))))))))
  have fz1 := H.frozen (w.heap.size) 1 (List.Mem.tail _ (List.Mem.tail _ (List.Mem.tail _ (List.Mem.tail _ (List.Mem.tail _ (List.Mem.tail _ (List.Mem.tail _ (List.Mem.tail _ (List.Mem.tail _ (List.Mem.tail _ (List.Mem.tail _ (List.Mem.head _))))))))))))
  have fz2 := H.frozen (w.heap.size) 2 (List.Mem.tail _ (List.Mem.tail _ (List.Mem.tail _ (List.Mem.tail _ (List.Mem.tail _ (List.Mem.tail _ (List.Mem.tail _ (List.Mem.tail _ (List.Mem.tail _ (List.Mem.tail _ (List.Mem.tail _ (List.Mem.tail _ (List.Mem.head _)))))))))))))
  have fz3 := H.frozen (w.heap.size) 3 (List.Mem.tail _ (List.Mem.tail _ (List.Mem.tail _ (List.Mem.tail _ (List.Mem.tail _ (List.Mem.tail _ (List.Mem.tail _ (List.Mem.tail _ (List.Mem.tail _ (List.Mem.tail _ (List.Mem.tail _ (List.Mem.tail _ (List.Mem.tail _ (List.Mem.head _))))))))))))))
  obtain ⟨c0, c1, t0, t1, h0, h1, hne, r0, r1⟩ := (show ErrAt a0 a1 w2 from H.all _ (List.Mem.tail _ (List.Mem.tail _ (List.Mem.tail _ (List.Mem.tail _ (List.Mem.tail _ (List.Mem.tail _ (List.Mem.tail _ (List.Mem.tail _ (List.Mem.tail _ (List.Mem.tail _ (List.Mem.tail _ (List.Mem.tail _ (List.Mem.tail _ (List.Mem.tail _ (List.Mem.head _))))))))))))))))
  have HK := H.old
  have lg0 := cell_lt h0
  have lg1 := cell_lt h1
  clear H r0 r1 hne
  go_wp2
  go_region
  all_goals go_wp2
  all_goals exact bodyPost_ret (v := .tuple #[.agg #[.int .i64 0, .int .i64 0, .int .i64 0, .int .i64 0], .iface 123 (.agg #[.string _, .iface 199 (.pointer (some a0))])]) (by simp [results, Tryz.results71, go_sem, cz0, cz1, cz2, cz3, lz]; rfl) rfl ⟨⟨_, rfl⟩, by repeat (first | exact HK | refine Below.drew ?_ | refine Below.setCell ?_ (by simp <;> omega) _ | refine Below.alloc ?_ (by simp <;> omega) _)⟩

set_option maxHeartbeats 1000000 in
set_option maxRecDepth 100000 in
theorem bet_gt (a b y1 m1 d1 y2 m2 d2 : Int) (a0 a1 : Addr) (w : World) (hL : Lens w) (hE : ErrAt a0 a1 w) (h1 : may y1 m1 d1) (e1 : nb y1 m1 d1 = a) (h2 : may y2 m2 d2) (e2 : nb y2 m2 d2 = b) (hab : a > b) : Calls Tryz.prog 71 #[.int .i64 a, .int .i64 b] w fun e' w' => (∃ s, e' = .returned (.tuple #[.agg #[.int .i64 0, .int .i64 0, .int .i64 0, .int .i64 0], .iface 123 (.agg #[.string s, .iface 199 (.pointer (some a1))])])) ∧ Below w.heap.size w w' := by
  have H := ((Held.start w).add (f := lensF) hL).add (f := errF_ac a0 a1) hE
  have kw : 0 < w.heap.size ∧ 1 < w.heap.size := by obtain ⟨_, _, _, _, k0, k1, _⟩ := hE; exact ⟨cell_lt k0, cell_lt k1⟩
  obtain ⟨kw0, kw1⟩ := kw
  clear hL hE
  have O1 : Hid (DayIs a y1 m1 d1 0) := Lib.hid (Or.inl ⟨h1, e1, rfl⟩)
  have O2 : Hid (DayIs b y2 m2 d2 0) := Lib.hid (Or.inl ⟨h2, e2, rfl⟩)
  clear h1 e1 h2 e2
  go_enter Tryz.func71, Tryz.ntmps71
  go_wp2_with fail
  replace H := (H.quad (w.heap.size) (.int .i64 0) (.int .i64 0) (.int .i64 0) (.int .i64 0) 108 rfl)
  (with_reducible refine (civ_any a y1 m1 d1 0 _ (H.lens (List.Mem.tail _ (List.Mem.tail _ (List.Mem.tail _ (List.Mem.tail _ (List.Mem.tail _ (List.Mem.tail _ (List.Mem.tail _ (List.Mem.tail _ (List.Mem.tail _ (List.Mem.head _))))))))))) O1.out).mono ?_)
  rintro e w1 ⟨rfl, hb⟩
  replace H := H.below hb
  clear hb
  go_wp2_with fail
  replace H := (H.triple (w1.heap.size) (.int .i64 y1) (.int .i64 m1) (.int .i64 d1) 78 rfl)
  (with_reducible refine (civ_any b y2 m2 d2 0 _ (H.lens (List.Mem.tail _ (List.Mem.tail _ (List.Mem.tail _ (List.Mem.tail _ (List.Mem.tail _ (List.Mem.tail _ (List.Mem.tail _ (List.Mem.tail _ (List.Mem.tail _ (List.Mem.tail _ (List.Mem.tail _ (List.Mem.tail _ (List.Mem.tail _ (List.Mem.tail _ (List.Mem.tail _ (List.Mem.head _))))))))))))))))) O2.out).mono ?_)
  rintro e w2 ⟨rfl, hb⟩
  replace H := H.below hb
  clear hb
  have cz0 := H.cell (w.heap.size) 0 (.int .i64 0) (List.Mem.tail _ (List.Mem.tail _ (List.Mem.tail _ (List.Mem.tail _ (List.Mem.tail _ (List.Mem.tail _ (List.Mem.head _)))))))
  have cz1 := H.cell (w.heap.size) 1 (.int .i64 0) (List.Mem.tail _ (List.Mem.tail _ (List.Mem.tail _ (List.Mem.tail _ (List.Mem.tail _ (List.Mem.tail _ (List.Mem.tail _ (List.Mem.head _))))))))
  have cz2 := H.cell (w.heap.size) 2 (.int .i64 0) (List.Mem.tail _ (List.Mem.tail _ (List.Mem.tail _ (List.Mem.tail _ (List.Mem.tail _ (List.Mem.tail _ (List.Mem.tail _ (List.Mem.tail _ (List.Mem.head _)))))))))
  have cz3 := H.cell (w.heap.size) 3 (.int .i64 0) (List.Mem.tail _ (List.Mem.tail _ (List.Mem.tail _ (List.Mem.tail _ (List.Mem.tail _ (List.Mem.tail _ (List.Mem.tail _ (List.Mem.tail _ (List.Mem.tail _ (List.Mem.head _))))))))))
  have lz := H.lt (w.heap.size) 0 (.int .i64 0) (List.Mem.tail _ (List.Mem.tail _ (List.Mem.tail _ (List.Mem.tail _ (List.Mem.tail _ (List.Mem.tail _ (List.Mem.head _)))))))
  have fz0 := H.frozen (w.heap.size) 0 (List.Mem.tail _ (List.Mem.tail _ (List.Mem.tail _ (List.Mem.tail _ (List.Mem.tail _ (List.Mem.tail _ (List.Mem.tail _ (List.Mem.tail _ (List.Mem.tail _ (List.Mem.tail _ (List.Mem.head _)))))))))))
  have fz1 := H.frozen (w.heap.size) 1 (List.Mem.tail _ (List.Mem.tail _ (List.Mem.tail _ (List.Mem.tail _ (List.Mem.tail _ (List.Mem.tail _ (List.Mem.tail _ (List.Mem.tail _ (List.Mem.tail _ (List.Mem.tail _ (List.Mem.tail _ (List.Mem.head _))))))))))))
  have fz2 := H.frozen (w.heap.size) 2 (List.Mem.tail _ (List.Mem.tail _ (List.Mem.tail _ (List.Mem.tail _ (List.Mem.tail _ (List.Mem.tail _ (List.Mem.tail _ (List.Mem.tail _ (List.Mem.tail _ (List.Mem.tail _ (List.Mem.tail _ (List.Mem.tail _ (List.Mem.head _)))))))))))))
  have fz3 := H.frozen (w.heap.size) 3 (List.Mem.tail _ (List.Mem.tail _ (List.Mem.tail _ (List.Mem.tail _ (List.Mem.tail _ (List.Mem.tail _ (List.Mem.tail _ (List.Mem.tail _ (List.Mem.tail _ (List.Mem.tail _ (List.Mem.tail _ (List.Mem.tail _ (List.Mem.tail _ (List.Mem.head _))))))))))))))
  obtain ⟨c0, c1, t0, t1, h0, h1, hne, r0, r1⟩ := (show ErrAt a0 a1 w2 from H.all _ (List.Mem.tail _ (List.Mem.tail _ (List.Mem.tail _ (List.Mem.tail _ (List.Mem.tail _ (List.Mem.tail _ (List.Mem.tail _ (List.Mem.tail _ (List.Mem.tail _ (List.Mem.tail _ (List.Mem.tail _ (List.Mem.tail _ (List.Mem.tail _ (List.Mem.tail _ (List.Mem.head _))))))))))))))))
  have HK := H.old
  have lg0 := cell_lt h0
  have lg1 := cell_lt h1
  clear H r0 r1 hne
  go_wp2
  go_region
  all_goals go_wp2
  all_goals exact bodyPost_ret (v := .tuple #[.agg #[.int .i64 0, .int .i64 0, .int .i64 0, .int .i64 0], .iface 123 (.agg #[.string _, .iface 199 (.pointer (some a1))])]) (by simp [results, Tryz.results71, go_sem, cz0, cz1, cz2, cz3, lz]; rfl) rfl ⟨⟨_, rfl⟩, by repeat (first | exact HK | refine Below.drew ?_ | refine Below.setCell ?_ (by simp <;> omega) _ | refine Below.alloc ?_ (by simp <;> omega) _)⟩

set_option maxHeartbeats 1000000 in
set_option maxRecDepth 100000 in
theorem bet_ok (a b y1 m1 d1 y2 m2 d2 : Int) (a0 a1 : Addr) (w : World) (hL : Lens w) (hE : ErrAt a0 a1 w) (h1 : may y1 m1 d1) (e1 : nb y1 m1 d1 = a) (h2 : may y2 m2 d2) (e2 : nb y2 m2 d2 = b) (hab : ¬ a > b) : Calls Tryz.prog 71 #[.int .i64 a, .int .i64 b] w fun e' w' => e' = .returned (.tuple #[.agg #[.int .i64 a, .int .i64 b, .int .i64 y1, .int .i64 y2], .nilIface]) ∧ Below w.heap.size w w' := by
  have H := ((Held.start w).add (f := lensF) hL).add (f := errF_ac a0 a1) hE
  have kw : 0 < w.heap.size ∧ 1 < w.heap.size := by obtain ⟨_, _, _, _, k0, k1, _⟩ := hE; exact ⟨cell_lt k0, cell_lt k1⟩
  obtain ⟨kw0, kw1⟩ := kw
  clear hL hE
  have O1 : Hid (DayIs a y1 m1 d1 0) := Lib.hid (Or.inl ⟨h1, e1, rfl⟩)
  have O2 : Hid (DayIs b y2 m2 d2 0) := Lib.hid (Or.inl ⟨h2, e2, rfl⟩)
  clear h1 e1 h2 e2
  go_enter Tryz.func71, Tryz.ntmps71
  go_wp2_with fail
  replace H := (H.quad (w.heap.size) (.int .i64 0) (.int .i64 0) (.int .i64 0) (.int .i64 0) 108 rfl)
  (with_reducible refine (civ_any a y1 m1 d1 0 _ (H.lens (List.Mem.tail _ (List.Mem.tail _ (List.Mem.tail _ (List.Mem.tail _ (List.Mem.tail _ (List.Mem.tail _ (List.Mem.tail _ (List.Mem.tail _ (List.Mem.tail _ (List.Mem.head _))))))))))) O1.out).mono ?_)
  rintro e w1 ⟨rfl, hb⟩
  replace H := H.below hb
  clear hb
  go_wp2_with fail
  replace H := (H.triple (w1.heap.size) (.int .i64 y1) (.int .i64 m1) (.int .i64 d1) 78 rfl)
  (with_reducible refine (civ_any b y2 m2 d2 0 _ (H.lens (List.Mem.tail _ (List.Mem.tail _ (List.Mem.tail _ (List.Mem.tail _ (List.Mem.tail _ (List.Mem.tail _ (List.Mem.tail _ (List.Mem.tail _ (List.Mem.tail _ (List.Mem.tail _ (List.Mem.tail _ (List.Mem.tail _ (List.Mem.tail _ (List.Mem.tail _ (List.Mem.tail _ (List.Mem.head _))))))))))))))))) O2.out).mono ?_)
  rintro e w2 ⟨rfl, hb⟩
  replace H := H.below hb
  clear hb
  have cz0 := H.cell (w.heap.size) 0 (.int .i64 0) (List.Mem.tail _ (List.Mem.tail _ (List.Mem.tail _ (List.Mem.tail _ (List.Mem.tail _ (List.Mem.tail _ (List.Mem.head _)))))))
  have cz1 := H.cell (w.heap.size) 1 (.int .i64 0) (List.Mem.tail _ (List.Mem.tail _ (List.Mem.tail _ (List.Mem.tail _ (List.Mem.tail _ (List.Mem.tail _ (List.Mem.tail _ (List.Mem.head _))))))))
  have cz2 := H.cell (w.heap.size) 2 (.int .i64 0) (List.Mem.tail _ (List.Mem.tail _ (List.Mem.tail _ (List.Mem.tail _ (List.Mem.tail _ (List.Mem.tail _ (List.Mem.tail _ (List.Mem.tail _ (List.Mem.head _)))))))))
  have cz3 := H.cell (w.heap.size) 3 (.int .i64 0) (List.Mem.tail _ (List.Mem.tail _ (List.Mem.tail _ (List.Mem.tail _ (List.Mem.tail _ (List.Mem.tail _ (List.Mem.tail _ (List.Mem.tail _ (List.Mem.tail _ (List.Mem.head _))))))))))
  have lz := H.lt (w.heap.size) 0 (.int .i64 0) (List.Mem.tail _ (List.Mem.tail _ (List.Mem.tail _ (List.Mem.tail _ (List.Mem.tail _ (List.Mem.tail _ (List.Mem.head _)))))))
  have cf0 := H.cell (w1.heap.size) 0 (.int .i64 y1) (List.Mem.head _)
  have cf1 := H.cell (w1.heap.size) 1 (.int .i64 m1) (List.Mem.tail _ (List.Mem.head _))
  have cf2 := H.cell (w1.heap.size) 2 (.int .i64 d1) (List.Mem.tail _ (List.Mem.tail _ (List.Mem.head _)))
  have lf := H.lt (w1.heap.size) 0 (.int .i64 y1) (List.Mem.head _)
  have fz0 := H.frozen (w.heap.size) 0 (List.Mem.tail _ (List.Mem.tail _ (List.Mem.tail _ (List.Mem.tail _ (List.Mem.tail _ (List.Mem.tail _ (List.Mem.tail _ (List.Mem.tail _ (List.Mem.tail _ (List.Mem.tail _ (List.Mem.head _)))))))))))
  have fz1 := H.frozen (w.heap.size) 1 (List.Mem.tail _ (List.Mem.tail _ (List.Mem.tail _ (List.Mem.tail _ (List.Mem.tail _ (List.Mem.tail _ (List.Mem.tail _ (List.Mem.tail _ (List.Mem.tail _ (List.Mem.tail _ (List.Mem.tail _ (List.Mem.head _))))))))))))
  have fz2 := H.frozen (w.heap.size) 2 (List.Mem.tail _ (List.Mem.tail _ (List.Mem.tail _ (List.Mem.tail _ (List.Mem.tail _ (List.Mem.tail _ (List.Mem.tail _ (List.Mem.tail _ (List.Mem.tail _ (List.Mem.tail _ (List.Mem.tail _ (List.Mem.tail _ (List.Mem.head _)))))))))))))
  have fz3 := H.frozen (w.heap.size) 3 (List.Mem.tail _ (List.Mem.tail _ (List.Mem.tail _ (List.Mem.tail _ (List.Mem.tail _ (List.Mem.tail _ (List.Mem.tail _ (List.Mem.tail _ (List.Mem.tail _ (List.Mem.tail _ (List.Mem.tail _ (List.Mem.tail _ (List.Mem.tail _ (List.Mem.head _))))))))))))))
  have HK := H.old
  clear H
  go_wp2
  exact bodyPost_ret (v := .tuple #[.agg #[.int .i64 a, .int .i64 b, .int .i64 y1, .int .i64 y2], .nilIface]) (by simp [results, Tryz.results71, go_sem, cz0, cz1, cz2, cz3, lz]) rfl ⟨rfl, by repeat (first | exact HK | refine Below.drew ?_ | refine Below.setCell ?_ (by simp <;> omega) _ | refine Below.alloc ?_ (by simp <;> omega) _)⟩
end Go.Proofs.YtkmchbllnfoccaaGreatDoor
/- Package actual: how many of the days between two days are in leap years, and how many in others. -/
namespace Go.Proofs.YtkmchbllnfoccaaGreatDoor
open Go.RowKit
set_option linter.unusedVariables false
set_option linter.unusedSimpArgs false

/-- How far the count has come behind so many years: the days up to it, and those in leap years. -/
def CvAt (y1 m1 d1 y2 m2 d2 g V c : Int) : Prop :=
  (g = 0 ∧ V = lv y1 m1 d1 ∧ c = nb y1 m1 d1) ∨ (0 < g ∧ y1 + g ≤ y2 ∧ V = 366 * ly (y1 + g) ∧ c = ah (y1 + g) + 1) ∨ (g = y2 + 1 - y1 ∧ V = lv y2 m2 d2 ∧ c = nb y2 m2 d2)
theorem cv_step (y1 m1 d1 y2 m2 d2 g V c : Int) (h1 : may y1 m1 d1) (h2 : may y2 m2 d2) (hy : y1 + g ≤ y2) (hc : CvAt y1 m1 d1 y2 m2 d2 g V c) :
    ∃ V' c', CvAt y1 m1 d1 y2 m2 d2 (g + 1) V' c' ∧ max (nb y1 m1 d1) (ah (y1 + g) + 1) = c ∧ min (nb y2 m2 d2) (ah (y1 + g) + 1 + yl (y1 + g)) = c' ∧ (lp (y1 + g) = true → V' = V + (c' - c)) ∧ (lp (y1 + g) = false → V' = V) := by
  have i1 := in_year _ _ _ h1
  have i2 := in_year _ _ _ h2
  have s := ah_step (y1 + g)
  have sl := ly_step (y1 + g)
  have e1 : y1 + g + 1 = y1 + (g + 1) := by omega
  rw [e1] at s sl
  have n1 : nb y1 m1 d1 = ah y1 + am y1 m1 + d1 := rfl
  have n2 : nb y2 m2 d2 = ah y2 + am y2 m2 + d2 := rfl
  have k2 : y1 + g < y2 → ah (y1 + g) + yl (y1 + g) ≤ ah y2 := ah_lt _ _
  have k1 : y1 < y1 + g → ah y1 + yl y1 ≤ ah (y1 + g) := ah_lt _ _
  rcases hc with ⟨rfl, rfl, rfl⟩ | ⟨g0, g1, rfl, rfl⟩ | ⟨rfl, _, _⟩
  · rw [Int.add_zero] at *
    by_cases he : y1 = y2
    · subst he
      refine ⟨lv y1 m2 d2, nb y1 m2 d2, Or.inr (Or.inr ⟨by omega, rfl, rfl⟩), by omega, by omega, fun p => ?_, fun p => ?_⟩
      · unfold lv; rw [if_pos p, if_pos p]; omega
      · unfold lv; simp [p]
    · refine ⟨366 * ly (y1 + (0 + 1)), ah (y1 + (0 + 1)) + 1, Or.inr (Or.inl ⟨by omega, by omega, rfl, rfl⟩), by omega, by omega, fun p => ?_, fun p => ?_⟩
      · rw [if_pos p] at sl; unfold lv; rw [if_pos p]; unfold yl at s; rw [if_pos p] at s; omega
      · rw [if_neg (by simp [p])] at sl; unfold lv; rw [if_neg (by simp [p])]; omega
  · by_cases he : y1 + g = y2
    · refine ⟨lv y2 m2 d2, nb y2 m2 d2, Or.inr (Or.inr ⟨by omega, rfl, rfl⟩), by omega, by rw [he] at *; omega, fun p => ?_, fun p => ?_⟩
      · rw [he] at *; unfold lv; rw [if_pos p]; omega
      · rw [he] at *; unfold lv; simp [p]
    · refine ⟨366 * ly (y1 + (g + 1)), ah (y1 + (g + 1)) + 1, Or.inr (Or.inl ⟨by omega, by omega, rfl, rfl⟩), by omega, by omega, fun p => ?_, fun p => ?_⟩
      · rw [if_pos p] at sl; unfold yl at s; rw [if_pos p] at s; omega
      · rw [if_neg (by simp [p])] at sl; omega
  · omega
theorem cv_bd (y1 m1 d1 y2 m2 d2 g V c : Int) (h1 : may y1 m1 d1) (h2 : may y2 m2 d2) (hl : nb y1 m1 d1 ≤ nb y2 m2 d2) (g0 : 0 ≤ g) (hy : y1 + g ≤ y2 + 1) (hc : CvAt y1 m1 d1 y2 m2 d2 g V c) :
    (0 ≤ V - lv y1 m1 d1 ∧ V - lv y1 m1 d1 ≤ 3700000) ∧ (0 ≤ c - nb y1 m1 d1 ∧ c - nb y1 m1 d1 ≤ 3700000) := by
  have b1 := lv_bd _ _ _ h1
  have b2 := lv_bd _ _ _ h2
  have n1 := nb_bd _ _ _ h1
  have n2 := nb_bd _ _ _ h2
  have l := lv_le _ _ _ _ _ _ h1 h2 hl
  have i1 := in_year _ _ _ h1
  have y1b := h1.1
  have y2b := h2.2.1
  rcases hc with ⟨rfl, rfl, rfl⟩ | ⟨g0, g1, rfl, rfl⟩ | ⟨rfl, rfl, rfl⟩
  · omega
  · have a := ah_bd (y1 + g) (by omega) (by omega)
    have b := ly_bd (y1 + g) (by omega) (by omega)
    have k := ah_lt y1 (y1 + g) (by omega)
    have k2 := ly_le (y1 + 1) (y1 + g) (by omega)
    have s := ly_step y1
    have u := ly_bd y1 (by omega) (by omega)
    have n : nb y1 m1 d1 = ah y1 + am y1 m1 + d1 := rfl
    refine ⟨?_, by omega⟩
    unfold lv
    unfold yl at i1
    by_cases p : lp y1 = true
    · rw [if_pos p] at *; omega
    · rw [if_neg p] at *; omega
  · omega
theorem ylen_any (y : Int) (w : World) : Calls Tryz.prog 86 #[.int .i64 y] w fun e w' => e = .returned (.int .i64 (yl y)) ∧ w = w' := by
  have CL := Lib.hid (fun v => leap_any y v)
  unfold yl
  generalize lp y = p at *
  go_enter Tryz.func86, Tryz.ntmps86
  go_wp2_with fail
  (with_reducible refine (CL.out _).mono ?_)
  rintro e w1 ⟨rfl, rfl⟩
  cases p
  · go_wp2
    go_ret
    exact ⟨rfl, rfl⟩
  · go_wp2
    go_ret
    exact ⟨rfl, rfl⟩

set_option maxHeartbeats 4000000 in
set_option maxRecDepth 100000 in
theorem byYears_any (a b y1 m1 d1 y2 m2 d2 x r : Int) (w : World) (hL : Lens w) (h1 : may y1 m1 d1) (ha : nb y1 m1 d1 = a) (h2 : may y2 m2 d2) (hb : nb y2 m2 d2 = b) (hab : a ≤ b) (hx : inX y1 m1 d1 y2 m2 d2 = x) (hr : b - a - x = r) :
    Calls Tryz.prog 73 #[.agg #[.int .i64 a, .int .i64 b, .int .i64 y1, .int .i64 y2]] w fun e w' => e = .returned (.tuple #[.int .i64 x, .int .i64 r]) ∧ Below w.heap.size w w' := by
  have H := (Held.start w).add (f := lensF) hL
  clear hL
  have yy : y1 ≤ y2 := by
    by_cases k : y2 < y1
    · have := nb_lt _ _ _ _ _ _ h2 h1 (Or.inl k); omega
    · omega
  have yb1 := h1.1
  have yb2 := h2.2.1
  have F1 : Hid (nN y1 1 1 = ah y1 + 1 ∧ nE y1 1 1 = 0) := Lib.hid (by
    have k : may y1 1 1 := ⟨h1.1, h1.2.1, by omega, by omega, by omega, by have := ln_ge y1 1 (by omega) (by omega); omega⟩
    have z := n_yes k
    have e : nb y1 1 1 = ah y1 + 1 := by unfold nb; rw [am_one]; omega
    rw [e] at z; exact z)
  have NB := Lib.hid (fun v h => by have k := number_any y1 1 1 v h; rwa [F1.out.1, F1.out.2] at k)
  have ST := Lib.hid (fun g V c hy hc => cv_step y1 m1 d1 y2 m2 d2 g V c h1 h2 hy hc)
  have BD := Lib.hid (fun g V c g0 hy hc => cv_bd y1 m1 d1 y2 m2 d2 g V c h1 h2 (by omega) g0 hy hc)
  have FIN : Hid (∀ V c, CvAt y1 m1 d1 y2 m2 d2 (y2 - y1 + 1) V c → V - lv y1 m1 d1 = x ∧ c - a - (V - lv y1 m1 d1) = r) := Lib.hid (by
    rintro V c (⟨e, _, _⟩ | ⟨_, e, _, _⟩ | ⟨_, rfl, rfl⟩)
    · omega
    · omega
    · unfold inX at hx; omega)
  have AB := Lib.hid (fun g (g0 : 0 ≤ g) (hy : y1 + g ≤ y2) => And.intro (ah_bd (y1 + g) (by omega) (by omega)) (yl_bd (y1 + g)))
  have A0 : Hid (CvAt y1 m1 d1 y2 m2 d2 0 (lv y1 m1 d1) a) := Lib.hid (Or.inl ⟨rfl, rfl, ha.symm⟩)
  have CN := Lib.hid (fun g => ah_step (y1 + g))
  have aB := nb_bd _ _ _ h1
  have bB := nb_bd _ _ _ h2
  rw [ha] at aB
  rw [hb] at bB
  rw [ha] at BD
  rw [ha, hb] at ST
  clear h1 h2 ha hb hx hr F1
  generalize lv y1 m1 d1 = L at *
  obtain ⟨A1, HA1⟩ : ∃ A1, Hid (ah y1 = A1) := ⟨_, Lib.hid rfl⟩
  have ab1 := (AB.out 0 (by omega) (by omega)).1
  rw [Int.add_zero, HA1.out] at ab1
  rw [HA1.out] at NB
  go_enter Tryz.func73, Tryz.ntmps73
  go_wp2_with fail
  replace H := (H.quad (w.heap.size) (.int .i64 a) (.int .i64 b) (.int .i64 y1) (.int .i64 y2) 108 rfl)
  (with_reducible refine (NB.out _ (H.lens (List.Mem.tail _ (List.Mem.tail _ (List.Mem.tail _ (List.Mem.tail _ (List.Mem.tail _ (List.Mem.tail _ (List.Mem.tail _ (List.Mem.tail _ (List.Mem.head _))))))))))).mono ?_)
  rintro e w1 ⟨rfl, hb⟩
  replace H := H.below hb
  clear hb
  have cs0 := H.cell (w.heap.size) 0 (.int .i64 a) (List.Mem.head _)
  have cs1 := H.cell (w.heap.size) 1 (.int .i64 b) (List.Mem.tail _ (List.Mem.head _))
  have cs2 := H.cell (w.heap.size) 2 (.int .i64 y1) (List.Mem.tail _ (List.Mem.tail _ (List.Mem.head _)))
  have cs3 := H.cell (w.heap.size) 3 (.int .i64 y2) (List.Mem.tail _ (List.Mem.tail _ (List.Mem.tail _ (List.Mem.head _))))
  have ls := H.lt (w.heap.size) 0 (.int .i64 a) (List.Mem.head _)
  have HK := H.old
  clear H
  go_wp2
  go_loop [2, 3, 4, 23] (fun il io bg k => ∃ g V c : Int, 0 ≤ g ∧ y1 + g ≤ y2 + 1 ∧ CvAt y1 m1 d1 y2 m2 d2 g V c ∧ il = .int .i64 (V - L) ∧ io = .int .i64 (c - a - (V - L)) ∧ bg = .int .i64 (ah (y1 + g) + 1) ∧ k = .int .i64 g) (fun _ _ _ k => (y2 + 1 - y1 - intOf k).toNat)
  case atStart => exact ⟨0, L, a, by omega, by omega, A0.out, by simp, by simp, by simp [HA1.out], rfl⟩
  case round =>
    obtain ⟨g, V, c, g0, g1, hc, rfl, rfl, rfl, rfl⟩ := hrel
    have HC := Lib.hid hc
    have bd := BD.out g V c g0 g1 hc
    clear hc
    by_cases hk : g < y2 - y1 + 1
    · obtain ⟨V', c', hc', e1, e2, e3, e4⟩ := ST.out g V c (by omega) HC.out
      have bd' := BD.out (g + 1) V' c' (by omega) (by omega) hc'
      have HC' := Lib.hid hc'
      have ab := AB.out g g0 (by omega)
      obtain ⟨y, hy⟩ : ∃ y, y = y1 + g := ⟨_, rfl⟩
      have HY := Lib.hid hy
      rw [← hy] at e1 e2 e3 e4 ab
      rw [← hy]
      have CN' := CN.out g
      rw [← hy] at CN'
      have CN2 := Lib.hid CN'
      have E1 := Lib.hid e1
      have E2 := Lib.hid e2
      have E3 := Lib.hid e3
      have E4 := Lib.hid e4
      obtain ⟨A, HA⟩ : ∃ A, Hid (ah y = A) := ⟨_, Lib.hid rfl⟩
      obtain ⟨Y, HYL⟩ : ∃ Y, Hid (yl y = Y) := ⟨_, Lib.hid rfl⟩
      have CL := Lib.hid (fun v => ylen_any y v)
      have CP := Lib.hid (fun v => leap_any y v)
      rw [HYL.out] at CL
      rw [HA.out, HYL.out] at ab
      rw [HA.out]
      have m1' := E1.out
      have m2' := E2.out
      rw [HA.out] at m1' m2'
      rw [HYL.out] at m2'
      have sY : IntKind.i64.wrap (y1 + g) = y := by rw [IntWalk.i64_in _ (by omega)]; exact hy.symm
      have yb : 1 ≤ y ∧ y ≤ 9999 := by omega
      clear e1 e2 e3 e4 hc' CN' hy
      go_wp2_with fail
      (with_reducible refine (CL.out _).mono ?_)
      rintro e w8 ⟨rfl, rfl⟩
      obtain ⟨p, HP⟩ : ∃ p, Hid (lp y = p) := ⟨_, Lib.hid rfl⟩
      rw [HP.out] at CP
      go_wp2_with fail
      (with_reducible refine (CP.out _).mono ?_)
      rintro e w9 ⟨rfl, rfl⟩
      have HB : Hid (A + 1 + Y = ah (y1 + (g + 1)) + 1) := Lib.hid (by
        have h := CN2.out
        rw [HA.out, HYL.out] at h
        have e : y1 + (g + 1) = y + 1 := by have := HY.out; omega
        rw [e, h]; omega)
      cases p
      · have ev := Lib.hid (E4.out HP.out)
        go_wp2
        go_round
        case rel => exact ⟨g + 1, V', c', by omega, by omega, HC'.out, congrArg (Value.int .i64) (by have := ev.out; omega), congrArg (Value.int .i64) (by have := ev.out; omega), congrArg (Value.int .i64) HB.out, rfl⟩
        case measure => simp [intOf]; omega
      · have ev := Lib.hid (E3.out HP.out)
        go_wp2
        go_round
        case rel => exact ⟨g + 1, V', c', by omega, by omega, HC'.out, congrArg (Value.int .i64) (by have := ev.out; omega), congrArg (Value.int .i64) (by have := ev.out; omega), congrArg (Value.int .i64) HB.out, rfl⟩
        case measure => simp [intOf]; omega
    · have e : g = y2 - y1 + 1 := by omega
      have FE := Lib.hid (FIN.out V c (e ▸ HC.out))
      clear e
      go_wp2
      go_ret2
      exact ⟨ret2 FE.out.1 FE.out.2, HK⟩
end Go.Proofs.YtkmchbllnfoccaaGreatDoor
/- What is known of the tables while the walks of layer 8 go on (Facts_ac); the three ways_ac, as the walks ask them; the document's examples. -/
namespace Go.Proofs.YtkmchbllnfoccaaGreatDoor
open Go.RowKit
set_option linter.unusedVariables false

/-- What stands in the memory, whatever is made: civil's table, and both errors. -/
def Facts_ac (w : World) : Prop := Lens w ∧ Errs_ac w
theorem Facts_ac.below {W W' : World} (h : Facts_ac W) (hb : Below W.heap.size W W') : Facts_ac W' := ⟨h.1.below hb, h.2.below hb⟩
def factsF_ac : Fact := .that Facts_ac (fun _ _ hb h => h.below hb)
theorem Held.facts_ac {w W : World} {fs : List Fact} (h : Held w fs W) (hm : factsF_ac ∈ fs) : Facts_ac W := h.all _ hm
/-- What the three ways_ac answer. -/
structure Ways_ac : Prop where
  by360 : ∀ (a b p q c : Int) (w : World), Facts_ac w → AcIs aX 360 a b p q c → Calls Tryz.prog 48 #[.int .i64 a, .int .i64 b] w fun e w' => e = .returned (.tuple #[.agg #[.int .i64 p, .int .i64 q], .int .i64 c]) ∧ Below w.heap.size w w'
  by365 : ∀ (a b p q c : Int) (w : World), Facts_ac w → AcIs aX 365 a b p q c → Calls Tryz.prog 49 #[.int .i64 a, .int .i64 b] w fun e w' => e = .returned (.tuple #[.agg #[.int .i64 p, .int .i64 q], .int .i64 c]) ∧ Below w.heap.size w w'
  byyears : ∀ (a b p q c : Int) (w : World), Facts_ac w → AcIs yX 133590 a b p q c → Calls Tryz.prog 50 #[.int .i64 a, .int .i64 b] w fun e w' => e = .returned (.tuple #[.agg #[.int .i64 p, .int .i64 q], .int .i64 c]) ∧ Below w.heap.size w w'

end Go.Proofs.YtkmchbllnfoccaaGreatDoor
/- Package actual: the three ways_ac. -/
namespace Go.Proofs.YtkmchbllnfoccaaGreatDoor
open Go.RowKit
set_option linter.unusedVariables false
set_option linter.unusedSimpArgs false

theorem Held.err {w W : World} {fs : List Fact} {a0 a1 : Addr} (h : Held w fs W) (hm : errF_ac a0 a1 ∈ fs) : ErrAt a0 a1 W := h.all _ hm
theorem bet_day (a b : Int) (a0 a1 : Addr) (w : World) (hL : Lens w) (hE : ErrAt a0 a1 w) (h : (a < 1 ∨ 3652059 < a) ∨ (b < 1 ∨ 3652059 < b)) : Calls Tryz.prog 71 #[.int .i64 a, .int .i64 b] w fun e' w' => (∃ s, e' = .returned (.tuple #[.agg #[.int .i64 0, .int .i64 0, .int .i64 0, .int .i64 0], .iface 123 (.agg #[.string s, .iface 199 (.pointer (some a0))])])) ∧ Below w.heap.size w w' := by
  by_cases h1 : a < 1 ∨ 3652059 < a
  · exact bet_day1 a b a0 a1 w hL hE h1
  · obtain ⟨y1, m1, d1, k1, k2⟩ := day_of a (by omega) (by omega)
    exact bet_day2 a b y1 m1 d1 a0 a1 w hL hE k1 k2 (by omega)
theorem bet_order (a b : Int) (a0 a1 : Addr) (w : World) (hL : Lens w) (hE : ErrAt a0 a1 w) (h1 : 1 ≤ a ∧ a ≤ 3652059) (h2 : 1 ≤ b ∧ b ≤ 3652059) (h : b < a) : Calls Tryz.prog 71 #[.int .i64 a, .int .i64 b] w fun e' w' => (∃ s, e' = .returned (.tuple #[.agg #[.int .i64 0, .int .i64 0, .int .i64 0, .int .i64 0], .iface 123 (.agg #[.string s, .iface 199 (.pointer (some a1))])])) ∧ Below w.heap.size w w' := by
  obtain ⟨y1, m1, d1, k1, k2⟩ := day_of a h1.1 h1.2
  obtain ⟨y2, m2, d2, k3, k4⟩ := day_of b h2.1 h2.2
  exact bet_gt a b y1 m1 d1 y2 m2 d2 a0 a1 w hL hE k1 k2 k3 k4 h

set_option maxHeartbeats 1000000 in
set_option maxRecDepth 100000 in
theorem by_ok (a b k y1 m1 d1 y2 m2 d2 p q : Int) (w : World) (hF : Facts_ac w) (h1 : may y1 m1 d1) (e1 : nb y1 m1 d1 = a) (h2 : may y2 m2 d2) (e2 : nb y2 m2 d2 = b) (hab : a ≤ b) (k0 : 0 < k) (k1 : k ≤ 200000) (hp : rN (b - a) k = p) (hq : rD (b - a) k = q) : Calls Tryz.prog 70 #[.int .i64 a, .int .i64 b, .int .i64 k] w fun e' w' => e' = .returned (.tuple #[.agg #[.int .i64 p, .int .i64 q], .int .i64 0]) ∧ Below w.heap.size w w' := by
  obtain ⟨hL, a0, a1, hE⟩ := hF
  have H := ((Held.start w).add (f := lensF) hL).add (f := errF_ac a0 a1) hE
  clear hL hE
  have bd1 := nb_bd _ _ _ h1
  have bd2 := nb_bd _ _ _ h2
  rw [e1] at bd1
  rw [e2] at bd2
  have N1 : Hid (rN (b - a) k = p ∧ rD (b - a) k = q ∧ rE (b - a) k = 0) := Lib.hid ⟨hp, hq, (r_yes (fit_den (b - a) k (by omega) (by omega) k0 k1)).2.2⟩
  have CB := Lib.hid (fun v hl he => bet_ok a b y1 m1 d1 y2 m2 d2 a0 a1 v hl he h1 e1 h2 e2 (by omega))
  clear h1 e1 h2 e2 hp hq
  go_enter Tryz.func70, Tryz.ntmps70
  go_wp2_with fail
  replace H := (H.pair (w.heap.size) (.int .i64 0) (.int .i64 0) 29 rfl)
  (with_reducible refine (CB.out _ (H.lens (List.Mem.tail _ (List.Mem.tail _ (List.Mem.tail _ (List.Mem.tail _ (List.Mem.tail _ (List.Mem.head _))))))) (H.err (List.Mem.tail _ (List.Mem.tail _ (List.Mem.tail _ (List.Mem.tail _ (List.Mem.head _))))))).mono ?_)
  rintro e w1 ⟨rfl, hb⟩
  replace H := H.below hb
  clear hb
  go_wp2_with fail
  replace H := (H.quad (w1.heap.size) (.int .i64 a) (.int .i64 b) (.int .i64 y1) (.int .i64 y2) 108 rfl)
  (with_reducible refine (code_nil_ac a0 a1 _ (H.err (List.Mem.tail _ (List.Mem.tail _ (List.Mem.tail _ (List.Mem.tail _ (List.Mem.tail _ (List.Mem.tail _ (List.Mem.tail _ (List.Mem.tail _ (List.Mem.tail _ (List.Mem.tail _ (List.Mem.tail _ (List.Mem.tail _ (List.Mem.head _))))))))))))))).mono ?_)
  rintro e w2 ⟨rfl, hb⟩
  replace H := H.below hb
  clear hb
  have cd0 := H.cell (w1.heap.size) 0 (.int .i64 a) (List.Mem.head _)
  have cd1 := H.cell (w1.heap.size) 1 (.int .i64 b) (List.Mem.tail _ (List.Mem.head _))
  have cd2 := H.cell (w1.heap.size) 2 (.int .i64 y1) (List.Mem.tail _ (List.Mem.tail _ (List.Mem.head _)))
  have cd3 := H.cell (w1.heap.size) 3 (.int .i64 y2) (List.Mem.tail _ (List.Mem.tail _ (List.Mem.tail _ (List.Mem.head _))))
  have ld := H.lt (w1.heap.size) 0 (.int .i64 a) (List.Mem.head _)
  go_wp2_with fail
  clear cd0 cd1 cd2 cd3 ld
  (with_reducible refine (new_is (b - a) k p q 0 _ (by omega) (by omega) (by omega) (by omega) N1.out).mono ?_)
  rintro e w3 ⟨rfl, hb⟩
  replace H := H.below hb
  clear hb
  have cz0 := H.cell (w.heap.size) 0 (.int .i64 0) (List.Mem.tail _ (List.Mem.tail _ (List.Mem.tail _ (List.Mem.tail _ (List.Mem.tail _ (List.Mem.tail _ (List.Mem.tail _ (List.Mem.tail _ (List.Mem.head _)))))))))
  have cz1 := H.cell (w.heap.size) 1 (.int .i64 0) (List.Mem.tail _ (List.Mem.tail _ (List.Mem.tail _ (List.Mem.tail _ (List.Mem.tail _ (List.Mem.tail _ (List.Mem.tail _ (List.Mem.tail _ (List.Mem.tail _ (List.Mem.head _))))))))))
  have lz := H.lt (w.heap.size) 0 (.int .i64 0) (List.Mem.tail _ (List.Mem.tail _ (List.Mem.tail _ (List.Mem.tail _ (List.Mem.tail _ (List.Mem.tail _ (List.Mem.tail _ (List.Mem.tail _ (List.Mem.head _)))))))))
  have fz0 := H.frozen (w.heap.size) 0 (List.Mem.tail _ (List.Mem.tail _ (List.Mem.tail _ (List.Mem.tail _ (List.Mem.tail _ (List.Mem.tail _ (List.Mem.tail _ (List.Mem.tail _ (List.Mem.tail _ (List.Mem.tail _ (List.Mem.head _)))))))))))
  have fz1 := H.frozen (w.heap.size) 1 (List.Mem.tail _ (List.Mem.tail _ (List.Mem.tail _ (List.Mem.tail _ (List.Mem.tail _ (List.Mem.tail _ (List.Mem.tail _ (List.Mem.tail _ (List.Mem.tail _ (List.Mem.tail _ (List.Mem.tail _ (List.Mem.head _))))))))))))
  have HK := H.old
  clear H
  go_wp2_with fail
  exact bodyPost_ret (v := .tuple #[.agg #[.int .i64 p, .int .i64 q], .int .i64 0]) (by simp [results, Tryz.results70, go_sem, cz0, cz1, lz]) rfl ⟨rfl, by repeat (first | exact HK | refine Below.drew ?_ | refine Below.setCell ?_ (by simp <;> omega) _ | refine Below.alloc ?_ (by simp <;> omega) _)⟩

set_option maxHeartbeats 1000000 in
set_option maxRecDepth 100000 in
theorem by_day (a b k : Int) (w : World) (hF : Facts_ac w) (h : (a < 1 ∨ 3652059 < a) ∨ (b < 1 ∨ 3652059 < b)) : Calls Tryz.prog 70 #[.int .i64 a, .int .i64 b, .int .i64 k] w fun e' w' => e' = .returned (.tuple #[.agg #[.int .i64 0, .int .i64 0], .int .i64 3]) ∧ Below w.heap.size w w' := by
  obtain ⟨hL, a0, a1, hE⟩ := hF
  have H := ((Held.start w).add (f := lensF) hL).add (f := errF_ac a0 a1) hE
  clear hL hE
  have CB := Lib.hid (fun v hl he => bet_day a b a0 a1 v hl he h)
  clear h
  go_enter Tryz.func70, Tryz.ntmps70
  go_wp2_with fail
  replace H := (H.pair (w.heap.size) (.int .i64 0) (.int .i64 0) 29 rfl)
  (with_reducible refine (CB.out _ (H.lens (List.Mem.tail _ (List.Mem.tail _ (List.Mem.tail _ (List.Mem.tail _ (List.Mem.tail _ (List.Mem.head _))))))) (H.err (List.Mem.tail _ (List.Mem.tail _ (List.Mem.tail _ (List.Mem.tail _ (List.Mem.head _))))))).mono ?_)
  rintro e w1 ⟨⟨s, rfl⟩, hb⟩
  replace H := H.below hb
  clear hb
  go_wp2_with fail
  replace H := (H.quad (w1.heap.size) (.int .i64 0) (.int .i64 0) (.int .i64 0) (.int .i64 0) 108 rfl)
  (with_reducible refine (code_day s a0 a1 _ (H.err (List.Mem.tail _ (List.Mem.tail _ (List.Mem.tail _ (List.Mem.tail _ (List.Mem.tail _ (List.Mem.tail _ (List.Mem.tail _ (List.Mem.tail _ (List.Mem.tail _ (List.Mem.tail _ (List.Mem.tail _ (List.Mem.tail _ (List.Mem.head _))))))))))))))).mono ?_)
  rintro e w2 ⟨rfl, hb⟩
  replace H := H.below hb
  clear hb
  have cz0 := H.cell (w.heap.size) 0 (.int .i64 0) (List.Mem.tail _ (List.Mem.tail _ (List.Mem.tail _ (List.Mem.tail _ (List.Mem.tail _ (List.Mem.tail _ (List.Mem.tail _ (List.Mem.tail _ (List.Mem.head _)))))))))
  have cz1 := H.cell (w.heap.size) 1 (.int .i64 0) (List.Mem.tail _ (List.Mem.tail _ (List.Mem.tail _ (List.Mem.tail _ (List.Mem.tail _ (List.Mem.tail _ (List.Mem.tail _ (List.Mem.tail _ (List.Mem.tail _ (List.Mem.head _))))))))))
  have lz := H.lt (w.heap.size) 0 (.int .i64 0) (List.Mem.tail _ (List.Mem.tail _ (List.Mem.tail _ (List.Mem.tail _ (List.Mem.tail _ (List.Mem.tail _ (List.Mem.tail _ (List.Mem.tail _ (List.Mem.head _)))))))))
  have fz0 := H.frozen (w.heap.size) 0 (List.Mem.tail _ (List.Mem.tail _ (List.Mem.tail _ (List.Mem.tail _ (List.Mem.tail _ (List.Mem.tail _ (List.Mem.tail _ (List.Mem.tail _ (List.Mem.tail _ (List.Mem.tail _ (List.Mem.head _)))))))))))
  have fz1 := H.frozen (w.heap.size) 1 (List.Mem.tail _ (List.Mem.tail _ (List.Mem.tail _ (List.Mem.tail _ (List.Mem.tail _ (List.Mem.tail _ (List.Mem.tail _ (List.Mem.tail _ (List.Mem.tail _ (List.Mem.tail _ (List.Mem.tail _ (List.Mem.head _))))))))))))
  have HK := H.old
  clear H
  go_wp2_with fail
  exact bodyPost_ret (v := .tuple #[.agg #[.int .i64 0, .int .i64 0], .int .i64 3]) (by simp [results, Tryz.results70, go_sem, cz0, cz1, lz]) rfl ⟨rfl, by repeat (first | exact HK | refine Below.drew ?_ | refine Below.setCell ?_ (by simp <;> omega) _ | refine Below.alloc ?_ (by simp <;> omega) _)⟩

set_option maxHeartbeats 1000000 in
set_option maxRecDepth 100000 in
theorem by_order (a b k : Int) (w : World) (hF : Facts_ac w) (h1 : 1 ≤ a ∧ a ≤ 3652059) (h2 : 1 ≤ b ∧ b ≤ 3652059) (h : b < a) : Calls Tryz.prog 70 #[.int .i64 a, .int .i64 b, .int .i64 k] w fun e' w' => e' = .returned (.tuple #[.agg #[.int .i64 0, .int .i64 0], .int .i64 4]) ∧ Below w.heap.size w w' := by
  obtain ⟨hL, a0, a1, hE⟩ := hF
  have H := ((Held.start w).add (f := lensF) hL).add (f := errF_ac a0 a1) hE
  clear hL hE
  have CB := Lib.hid (fun v hl he => bet_order a b a0 a1 v hl he h1 h2 h)
  clear h h1 h2
  go_enter Tryz.func70, Tryz.ntmps70
  go_wp2_with fail
  replace H := (H.pair (w.heap.size) (.int .i64 0) (.int .i64 0) 29 rfl)
  (with_reducible refine (CB.out _ (H.lens (List.Mem.tail _ (List.Mem.tail _ (List.Mem.tail _ (List.Mem.tail _ (List.Mem.tail _ (List.Mem.head _))))))) (H.err (List.Mem.tail _ (List.Mem.tail _ (List.Mem.tail _ (List.Mem.tail _ (List.Mem.head _))))))).mono ?_)
  rintro e w1 ⟨⟨s, rfl⟩, hb⟩
  replace H := H.below hb
  clear hb
  go_wp2_with fail
  replace H := (H.quad (w1.heap.size) (.int .i64 0) (.int .i64 0) (.int .i64 0) (.int .i64 0) 108 rfl)
  (with_reducible refine (code_order s a0 a1 _ (H.err (List.Mem.tail _ (List.Mem.tail _ (List.Mem.tail _ (List.Mem.tail _ (List.Mem.tail _ (List.Mem.tail _ (List.Mem.tail _ (List.Mem.tail _ (List.Mem.tail _ (List.Mem.tail _ (List.Mem.tail _ (List.Mem.tail _ (List.Mem.head _))))))))))))))).mono ?_)
  rintro e w2 ⟨rfl, hb⟩
  replace H := H.below hb
  clear hb
  have cz0 := H.cell (w.heap.size) 0 (.int .i64 0) (List.Mem.tail _ (List.Mem.tail _ (List.Mem.tail _ (List.Mem.tail _ (List.Mem.tail _ (List.Mem.tail _ (List.Mem.tail _ (List.Mem.tail _ (List.Mem.head _)))))))))
  have cz1 := H.cell (w.heap.size) 1 (.int .i64 0) (List.Mem.tail _ (List.Mem.tail _ (List.Mem.tail _ (List.Mem.tail _ (List.Mem.tail _ (List.Mem.tail _ (List.Mem.tail _ (List.Mem.tail _ (List.Mem.tail _ (List.Mem.head _))))))))))
  have lz := H.lt (w.heap.size) 0 (.int .i64 0) (List.Mem.tail _ (List.Mem.tail _ (List.Mem.tail _ (List.Mem.tail _ (List.Mem.tail _ (List.Mem.tail _ (List.Mem.tail _ (List.Mem.tail _ (List.Mem.head _)))))))))
  have fz0 := H.frozen (w.heap.size) 0 (List.Mem.tail _ (List.Mem.tail _ (List.Mem.tail _ (List.Mem.tail _ (List.Mem.tail _ (List.Mem.tail _ (List.Mem.tail _ (List.Mem.tail _ (List.Mem.tail _ (List.Mem.tail _ (List.Mem.head _)))))))))))
  have fz1 := H.frozen (w.heap.size) 1 (List.Mem.tail _ (List.Mem.tail _ (List.Mem.tail _ (List.Mem.tail _ (List.Mem.tail _ (List.Mem.tail _ (List.Mem.tail _ (List.Mem.tail _ (List.Mem.tail _ (List.Mem.tail _ (List.Mem.tail _ (List.Mem.head _))))))))))))
  have HK := H.old
  clear H
  go_wp2_with fail
  exact bodyPost_ret (v := .tuple #[.agg #[.int .i64 0, .int .i64 0], .int .i64 4]) (by simp [results, Tryz.results70, go_sem, cz0, cz1, lz]) rfl ⟨rfl, by repeat (first | exact HK | refine Below.drew ?_ | refine Below.setCell ?_ (by simp <;> omega) _ | refine Below.alloc ?_ (by simp <;> omega) _)⟩

theorem by_any (a b k p q c : Int) (w : World) (hF : Facts_ac w) (k0 : 0 < k) (k1 : k ≤ 200000) (h : AcIs aX k a b p q c) : Calls Tryz.prog 70 #[.int .i64 a, .int .i64 b, .int .i64 k] w fun e' w' => e' = .returned (.tuple #[.agg #[.int .i64 p, .int .i64 q], .int .i64 c]) ∧ Below w.heap.size w w' := by
  rcases h with ⟨y1, m1, d1, y2, m2, d2, h1, ha, h2, hb, hab, hp, hq, rfl⟩ | ⟨h, rfl, rfl, rfl⟩ | ⟨h1, h2, h, rfl, rfl, rfl⟩
  · unfold aX at hp hq
    rw [ha, hb] at hp hq
    exact by_ok a b k y1 m1 d1 y2 m2 d2 p q w hF h1 ha h2 hb hab k0 k1 hp hq
  · exact by_day a b k w hF h
  · exact by_order a b k w hF h1 h2 h

theorem by360_any (a b p q c : Int) (w : World) (hF : Facts_ac w) (h : AcIs aX 360 a b p q c) : Calls Tryz.prog 48 #[.int .i64 a, .int .i64 b] w fun e' w' => e' = .returned (.tuple #[.agg #[.int .i64 p, .int .i64 q], .int .i64 c]) ∧ Below w.heap.size w w' := by
  have C := Lib.hid (fun v hf => by_any a b 360 p q c v hf (by decide) (by decide) h)
  have H := (Held.start w).add (f := factsF_ac) hF
  clear h hF
  go_enter Tryz.func48, Tryz.ntmps48
  go_wp2_with fail
  replace H := (H.pair (w.heap.size) (.int .i64 0) (.int .i64 0) 29 rfl)
  (with_reducible refine (C.out _ (H.facts_ac (List.Mem.tail _ (List.Mem.tail _ (List.Mem.tail _ (List.Mem.tail _ (List.Mem.head _))))))).mono ?_)
  rintro e w1 ⟨rfl, hb⟩
  replace H := H.below hb
  clear hb
  have cz0 := H.cell (w.heap.size) 0 (.int .i64 0) (List.Mem.head _)
  have cz1 := H.cell (w.heap.size) 1 (.int .i64 0) (List.Mem.tail _ (List.Mem.head _))
  have lz := H.lt (w.heap.size) 0 (.int .i64 0) (List.Mem.head _)
  have fz0 := H.frozen (w.heap.size) 0 (List.Mem.tail _ (List.Mem.tail _ (List.Mem.head _)))
  have fz1 := H.frozen (w.heap.size) 1 (List.Mem.tail _ (List.Mem.tail _ (List.Mem.tail _ (List.Mem.head _))))
  have HK := H.old
  clear H
  go_wp2_with fail
  exact bodyPost_ret (v := .tuple #[.agg #[.int .i64 p, .int .i64 q], .int .i64 c]) (by simp [results, Tryz.results48, go_sem, cz0, cz1, lz]) rfl ⟨rfl, by repeat (first | exact HK | refine Below.drew ?_ | refine Below.setCell ?_ (by simp <;> omega) _ | refine Below.alloc ?_ (by simp <;> omega) _)⟩

theorem by365_any (a b p q c : Int) (w : World) (hF : Facts_ac w) (h : AcIs aX 365 a b p q c) : Calls Tryz.prog 49 #[.int .i64 a, .int .i64 b] w fun e' w' => e' = .returned (.tuple #[.agg #[.int .i64 p, .int .i64 q], .int .i64 c]) ∧ Below w.heap.size w w' := by
  have C := Lib.hid (fun v hf => by_any a b 365 p q c v hf (by decide) (by decide) h)
  have H := (Held.start w).add (f := factsF_ac) hF
  clear h hF
  go_enter Tryz.func49, Tryz.ntmps49
  go_wp2_with fail
  replace H := (H.pair (w.heap.size) (.int .i64 0) (.int .i64 0) 29 rfl)
  (with_reducible refine (C.out _ (H.facts_ac (List.Mem.tail _ (List.Mem.tail _ (List.Mem.tail _ (List.Mem.tail _ (List.Mem.head _))))))).mono ?_)
  rintro e w1 ⟨rfl, hb⟩
  replace H := H.below hb
  clear hb
  have cz0 := H.cell (w.heap.size) 0 (.int .i64 0) (List.Mem.head _)
  have cz1 := H.cell (w.heap.size) 1 (.int .i64 0) (List.Mem.tail _ (List.Mem.head _))
  have lz := H.lt (w.heap.size) 0 (.int .i64 0) (List.Mem.head _)
  have fz0 := H.frozen (w.heap.size) 0 (List.Mem.tail _ (List.Mem.tail _ (List.Mem.head _)))
  have fz1 := H.frozen (w.heap.size) 1 (List.Mem.tail _ (List.Mem.tail _ (List.Mem.tail _ (List.Mem.head _))))
  have HK := H.old
  clear H
  go_wp2_with fail
  exact bodyPost_ret (v := .tuple #[.agg #[.int .i64 p, .int .i64 q], .int .i64 c]) (by simp [results, Tryz.results49, go_sem, cz0, cz1, lz]) rfl ⟨rfl, by repeat (first | exact HK | refine Below.drew ?_ | refine Below.setCell ?_ (by simp <;> omega) _ | refine Below.alloc ?_ (by simp <;> omega) _)⟩

set_option maxHeartbeats 1000000 in
set_option maxRecDepth 100000 in
theorem byyears_ok (a b y1 m1 d1 y2 m2 d2 p q : Int) (w : World) (hF : Facts_ac w) (h1 : may y1 m1 d1) (e1 : nb y1 m1 d1 = a) (h2 : may y2 m2 d2) (e2 : nb y2 m2 d2 = b) (hab : a ≤ b) (hp : rN (yX y1 m1 d1 y2 m2 d2) 133590 = p) (hq : rD (yX y1 m1 d1 y2 m2 d2) 133590 = q) : Calls Tryz.prog 50 #[.int .i64 a, .int .i64 b] w fun e' w' => e' = .returned (.tuple #[.agg #[.int .i64 p, .int .i64 q], .int .i64 0]) ∧ Below w.heap.size w w' := by
  obtain ⟨hL, a0, a1, hE⟩ := hF
  have H := ((Held.start w).add (f := lensF) hL).add (f := errF_ac a0 a1) hE
  clear hL hE
  have bd1 := nb_bd _ _ _ h1
  have bd2 := nb_bd _ _ _ h2
  have lv := lv_le _ _ _ _ _ _ h1 h2 (by omega)
  rw [e1] at bd1 lv
  rw [e2] at bd2 lv
  obtain ⟨i, hi⟩ : ∃ i, inX y1 m1 d1 y2 m2 d2 = i := ⟨_, rfl⟩
  have ii : 0 ≤ i ∧ i ≤ b - a := by unfold inX at hi; omega
  have hY : yX y1 m1 d1 y2 m2 d2 = 365 * i + 366 * (b - a - i) := by unfold yX; rw [hi, e1, e2]
  obtain ⟨r, hr⟩ : ∃ r, b - a - i = r := ⟨_, rfl⟩
  rw [hY, hr] at hp hq
  have sm := years_sum i r (by omega) (by omega) (by omega) (by omega)
  obtain ⟨n1, HN1⟩ : ∃ x, rN i 366 = x := ⟨_, rfl⟩
  obtain ⟨k1, HD1⟩ : ∃ x, rD i 366 = x := ⟨_, rfl⟩
  obtain ⟨n2, HN2⟩ : ∃ x, rN r 365 = x := ⟨_, rfl⟩
  obtain ⟨k2, HD2⟩ : ∃ x, rD r 365 = x := ⟨_, rfl⟩
  rw [HN1, HD1, HN2, HD2, hp, hq] at sm
  have N1 : Hid (rN i 366 = n1 ∧ rD i 366 = k1 ∧ rE i 366 = 0) := Lib.hid ⟨HN1, HD1, (r_yes (fit_den i 366 (by omega) (by omega) (by decide) (by decide))).2.2⟩
  have N2 : Hid (rN r 365 = n2 ∧ rD r 365 = k2 ∧ rE r 365 = 0) := Lib.hid ⟨HN2, HD2, (r_yes (fit_den r 365 (by omega) (by omega) (by decide) (by decide))).2.2⟩
  have SM := Lib.hid sm
  have CS := Lib.hid (fun v hl => byYears_any a b y1 m1 d1 y2 m2 d2 i r v hl h1 e1 h2 e2 hab hi hr)
  have CB := Lib.hid (fun v hl he => bet_ok a b y1 m1 d1 y2 m2 d2 a0 a1 v hl he h1 e1 h2 e2 (by omega))
  have ir : (0 ≤ i ∧ i ≤ 3700000) ∧ (0 ≤ r ∧ r ≤ 3700000) := by omega
  clear h1 e1 h2 e2 hp hq sm lv hi hr hY HN1 HD1 HN2 HD2 ii
  go_enter Tryz.func50, Tryz.ntmps50
  go_wp2_with fail
  replace H := (H.pair (w.heap.size) (.int .i64 0) (.int .i64 0) 29 rfl)
  (with_reducible refine (CB.out _ (H.lens (List.Mem.tail _ (List.Mem.tail _ (List.Mem.tail _ (List.Mem.tail _ (List.Mem.tail _ (List.Mem.head _))))))) (H.err (List.Mem.tail _ (List.Mem.tail _ (List.Mem.tail _ (List.Mem.tail _ (List.Mem.head _))))))).mono ?_)
  rintro e w1 ⟨rfl, hb⟩
  replace H := H.below hb
  clear hb
  go_wp2_with fail
  replace H := (H.quad (w1.heap.size) (.int .i64 a) (.int .i64 b) (.int .i64 y1) (.int .i64 y2) 108 rfl)
  (with_reducible refine (code_nil_ac a0 a1 _ (H.err (List.Mem.tail _ (List.Mem.tail _ (List.Mem.tail _ (List.Mem.tail _ (List.Mem.tail _ (List.Mem.tail _ (List.Mem.tail _ (List.Mem.tail _ (List.Mem.tail _ (List.Mem.tail _ (List.Mem.tail _ (List.Mem.tail _ (List.Mem.head _))))))))))))))).mono ?_)
  rintro e w2 ⟨rfl, hb⟩
  replace H := H.below hb
  clear hb
  have cd0 := H.cell (w1.heap.size) 0 (.int .i64 a) (List.Mem.head _)
  have cd1 := H.cell (w1.heap.size) 1 (.int .i64 b) (List.Mem.tail _ (List.Mem.head _))
  have cd2 := H.cell (w1.heap.size) 2 (.int .i64 y1) (List.Mem.tail _ (List.Mem.tail _ (List.Mem.head _)))
  have cd3 := H.cell (w1.heap.size) 3 (.int .i64 y2) (List.Mem.tail _ (List.Mem.tail _ (List.Mem.tail _ (List.Mem.head _))))
  have ld := H.lt (w1.heap.size) 0 (.int .i64 a) (List.Mem.head _)
  go_wp2_with fail
  clear cd0 cd1 cd2 cd3 ld
  (with_reducible refine (CS.out _ (H.lens (List.Mem.tail _ (List.Mem.tail _ (List.Mem.tail _ (List.Mem.tail _ (List.Mem.tail _ (List.Mem.tail _ (List.Mem.tail _ (List.Mem.tail _ (List.Mem.tail _ (List.Mem.tail _ (List.Mem.tail _ (List.Mem.tail _ (List.Mem.tail _ (List.Mem.head _)))))))))))))))).mono ?_)
  rintro e w3 ⟨rfl, hb⟩
  replace H := H.below hb
  clear hb
  go_wp2_with fail
  (with_reducible refine (new_is i 366 n1 k1 0 _ (by omega) (by omega) (by decide) (by decide) N1.out).mono ?_)
  rintro e w4 ⟨rfl, hb⟩
  replace H := H.below hb
  clear hb
  go_wp2_with fail
  replace H := (H.pair (w4.heap.size) (.int .i64 n1) (.int .i64 k1) 29 rfl)
  (with_reducible refine (new_is r 365 n2 k2 0 _ (by omega) (by omega) (by decide) (by decide) N2.out).mono ?_)
  rintro e w5 ⟨rfl, hb⟩
  replace H := H.below hb
  clear hb
  have cm0 := H.cell (w4.heap.size) 0 (.int .i64 n1) (List.Mem.head _)
  have cm1 := H.cell (w4.heap.size) 1 (.int .i64 k1) (List.Mem.tail _ (List.Mem.head _))
  have lm := H.lt (w4.heap.size) 0 (.int .i64 n1) (List.Mem.head _)
  go_wp2_with fail
  clear cm0 cm1 lm
  replace H := (H.pair (w5.heap.size) (.int .i64 n2) (.int .i64 k2) 29 rfl)
  (with_reducible refine (radd_is n1 k1 n2 k2 p q 0 _ SM.out.1 SM.out.2.1 SM.out.2.2).mono ?_)
  rintro e w6 ⟨rfl, hb⟩
  replace H := H.below hb
  clear hb
  have cz0 := H.cell (w.heap.size) 0 (.int .i64 0) (List.Mem.tail _ (List.Mem.tail _ (List.Mem.tail _ (List.Mem.tail _ (List.Mem.tail _ (List.Mem.tail _ (List.Mem.tail _ (List.Mem.tail _ (List.Mem.tail _ (List.Mem.tail _ (List.Mem.tail _ (List.Mem.tail _ (List.Mem.tail _ (List.Mem.tail _ (List.Mem.tail _ (List.Mem.tail _ (List.Mem.head _)))))))))))))))))
  have cz1 := H.cell (w.heap.size) 1 (.int .i64 0) (List.Mem.tail _ (List.Mem.tail _ (List.Mem.tail _ (List.Mem.tail _ (List.Mem.tail _ (List.Mem.tail _ (List.Mem.tail _ (List.Mem.tail _ (List.Mem.tail _ (List.Mem.tail _ (List.Mem.tail _ (List.Mem.tail _ (List.Mem.tail _ (List.Mem.tail _ (List.Mem.tail _ (List.Mem.tail _ (List.Mem.tail _ (List.Mem.head _))))))))))))))))))
  have lz := H.lt (w.heap.size) 0 (.int .i64 0) (List.Mem.tail _ (List.Mem.tail _ (List.Mem.tail _ (List.Mem.tail _ (List.Mem.tail _ (List.Mem.tail _ (List.Mem.tail _ (List.Mem.tail _ (List.Mem.tail _ (List.Mem.tail _ (List.Mem.tail _ (List.Mem.tail _ (List.Mem.tail _ (List.Mem.tail _ (List.Mem.tail _ (List.Mem.tail _ (List.Mem.head _)))))))))))))))))
  have fz0 := H.frozen (w.heap.size) 0 (List.Mem.tail _ (List.Mem.tail _ (List.Mem.tail _ (List.Mem.tail _ (List.Mem.tail _ (List.Mem.tail _ (List.Mem.tail _ (List.Mem.tail _ (List.Mem.tail _ (List.Mem.tail _ (List.Mem.tail _ (List.Mem.tail _ (List.Mem.tail _ (List.Mem.tail _ (List.Mem.tail _ (List.Mem.tail _ (List.Mem.tail _ (List.Mem.tail _ (List.Mem.head _)))))))))))))))))))
  have fz1 := H.frozen (w.heap.size) 1 (List.Mem.tail _ (List.Mem.tail _ (List.Mem.tail _ (List.Mem.tail _ (List.Mem.tail _ (List.Mem.tail _ (List.Mem.tail _ (List.Mem.tail _ (List.Mem.tail _ (List.Mem.tail _ (List.Mem.tail _ (List.Mem.tail _ (List.Mem.tail _ (List.Mem.tail _ (List.Mem.tail _ (List.Mem.tail _ (List.Mem.tail _ (List.Mem.tail _ (List.Mem.tail _ (List.Mem.head _))))))))))))))))))))
  have HK := H.old
  clear H
  go_wp2_with fail
  exact bodyPost_ret (v := .tuple #[.agg #[.int .i64 p, .int .i64 q], .int .i64 0]) (by simp [results, Tryz.results50, go_sem, cz0, cz1, lz]) rfl ⟨rfl, by repeat (first | exact HK | refine Below.drew ?_ | refine Below.setCell ?_ (by simp <;> omega) _ | refine Below.alloc ?_ (by simp <;> omega) _)⟩

set_option maxHeartbeats 1000000 in
set_option maxRecDepth 100000 in
theorem byyears_day (a b : Int) (w : World) (hF : Facts_ac w) (h : (a < 1 ∨ 3652059 < a) ∨ (b < 1 ∨ 3652059 < b)) : Calls Tryz.prog 50 #[.int .i64 a, .int .i64 b] w fun e' w' => e' = .returned (.tuple #[.agg #[.int .i64 0, .int .i64 0], .int .i64 3]) ∧ Below w.heap.size w w' := by
  obtain ⟨hL, a0, a1, hE⟩ := hF
  have H := ((Held.start w).add (f := lensF) hL).add (f := errF_ac a0 a1) hE
  clear hL hE
  have CB := Lib.hid (fun v hl he => bet_day a b a0 a1 v hl he h)
  clear h
  go_enter Tryz.func50, Tryz.ntmps50
  go_wp2_with fail
  replace H := (H.pair (w.heap.size) (.int .i64 0) (.int .i64 0) 29 rfl)
  (with_reducible refine (CB.out _ (H.lens (List.Mem.tail _ (List.Mem.tail _ (List.Mem.tail _ (List.Mem.tail _ (List.Mem.tail _ (List.Mem.head _))))))) (H.err (List.Mem.tail _ (List.Mem.tail _ (List.Mem.tail _ (List.Mem.tail _ (List.Mem.head _))))))).mono ?_)
  rintro e w1 ⟨⟨s, rfl⟩, hb⟩
  replace H := H.below hb
  clear hb
  go_wp2_with fail
  replace H := (H.quad (w1.heap.size) (.int .i64 0) (.int .i64 0) (.int .i64 0) (.int .i64 0) 108 rfl)
  (with_reducible refine (code_day s a0 a1 _ (H.err (List.Mem.tail _ (List.Mem.tail _ (List.Mem.tail _ (List.Mem.tail _ (List.Mem.tail _ (List.Mem.tail _ (List.Mem.tail _ (List.Mem.tail _ (List.Mem.tail _ (List.Mem.tail _ (List.Mem.tail _ (List.Mem.tail _ (List.Mem.head _))))))))))))))).mono ?_)
  rintro e w2 ⟨rfl, hb⟩
  replace H := H.below hb
  clear hb
  have cz0 := H.cell (w.heap.size) 0 (.int .i64 0) (List.Mem.tail _ (List.Mem.tail _ (List.Mem.tail _ (List.Mem.tail _ (List.Mem.tail _ (List.Mem.tail _ (List.Mem.tail _ (List.Mem.tail _ (List.Mem.head _)))))))))
  have cz1 := H.cell (w.heap.size) 1 (.int .i64 0) (List.Mem.tail _ (List.Mem.tail _ (List.Mem.tail _ (List.Mem.tail _ (List.Mem.tail _ (List.Mem.tail _ (List.Mem.tail _ (List.Mem.tail _ (List.Mem.tail _ (List.Mem.head _))))))))))
  have lz := H.lt (w.heap.size) 0 (.int .i64 0) (List.Mem.tail _ (List.Mem.tail _ (List.Mem.tail _ (List.Mem.tail _ (List.Mem.tail _ (List.Mem.tail _ (List.Mem.tail _ (List.Mem.tail _ (List.Mem.head _)))))))))
  have fz0 := H.frozen (w.heap.size) 0 (List.Mem.tail _ (List.Mem.tail _ (List.Mem.tail _ (List.Mem.tail _ (List.Mem.tail _ (List.Mem.tail _ (List.Mem.tail _ (List.Mem.tail _ (List.Mem.tail _ (List.Mem.tail _ (List.Mem.head _)))))))))))
  have fz1 := H.frozen (w.heap.size) 1 (List.Mem.tail _ (List.Mem.tail _ (List.Mem.tail _ (List.Mem.tail _ (List.Mem.tail _ (List.Mem.tail _ (List.Mem.tail _ (List.Mem.tail _ (List.Mem.tail _ (List.Mem.tail _ (List.Mem.tail _ (List.Mem.head _))))))))))))
  have HK := H.old
  clear H
  go_wp2_with fail
  exact bodyPost_ret (v := .tuple #[.agg #[.int .i64 0, .int .i64 0], .int .i64 3]) (by simp [results, Tryz.results50, go_sem, cz0, cz1, lz]) rfl ⟨rfl, by repeat (first | exact HK | refine Below.drew ?_ | refine Below.setCell ?_ (by simp <;> omega) _ | refine Below.alloc ?_ (by simp <;> omega) _)⟩

set_option maxHeartbeats 1000000 in
set_option maxRecDepth 100000 in
theorem byyears_order (a b : Int) (w : World) (hF : Facts_ac w) (h1 : 1 ≤ a ∧ a ≤ 3652059) (h2 : 1 ≤ b ∧ b ≤ 3652059) (h : b < a) : Calls Tryz.prog 50 #[.int .i64 a, .int .i64 b] w fun e' w' => e' = .returned (.tuple #[.agg #[.int .i64 0, .int .i64 0], .int .i64 4]) ∧ Below w.heap.size w w' := by
  obtain ⟨hL, a0, a1, hE⟩ := hF
  have H := ((Held.start w).add (f := lensF) hL).add (f := errF_ac a0 a1) hE
  clear hL hE
  have CB := Lib.hid (fun v hl he => bet_order a b a0 a1 v hl he h1 h2 h)
  clear h h1 h2
  go_enter Tryz.func50, Tryz.ntmps50
  go_wp2_with fail
  replace H := (H.pair (w.heap.size) (.int .i64 0) (.int .i64 0) 29 rfl)
  (with_reducible refine (CB.out _ (H.lens (List.Mem.tail _ (List.Mem.tail _ (List.Mem.tail _ (List.Mem.tail _ (List.Mem.tail _ (List.Mem.head _))))))) (H.err (List.Mem.tail _ (List.Mem.tail _ (List.Mem.tail _ (List.Mem.tail _ (List.Mem.head _))))))).mono ?_)
  rintro e w1 ⟨⟨s, rfl⟩, hb⟩
  replace H := H.below hb
  clear hb
  go_wp2_with fail
  replace H := (H.quad (w1.heap.size) (.int .i64 0) (.int .i64 0) (.int .i64 0) (.int .i64 0) 108 rfl)
  (with_reducible refine (code_order s a0 a1 _ (H.err (List.Mem.tail _ (List.Mem.tail _ (List.Mem.tail _ (List.Mem.tail _ (List.Mem.tail _ (List.Mem.tail _ (List.Mem.tail _ (List.Mem.tail _ (List.Mem.tail _ (List.Mem.tail _ (List.Mem.tail _ (List.Mem.tail _ (List.Mem.head _))))))))))))))).mono ?_)
  rintro e w2 ⟨rfl, hb⟩
  replace H := H.below hb
  clear hb
  have cz0 := H.cell (w.heap.size) 0 (.int .i64 0) (List.Mem.tail _ (List.Mem.tail _ (List.Mem.tail _ (List.Mem.tail _ (List.Mem.tail _ (List.Mem.tail _ (List.Mem.tail _ (List.Mem.tail _ (List.Mem.head _)))))))))
  have cz1 := H.cell (w.heap.size) 1 (.int .i64 0) (List.Mem.tail _ (List.Mem.tail _ (List.Mem.tail _ (List.Mem.tail _ (List.Mem.tail _ (List.Mem.tail _ (List.Mem.tail _ (List.Mem.tail _ (List.Mem.tail _ (List.Mem.head _))))))))))
  have lz := H.lt (w.heap.size) 0 (.int .i64 0) (List.Mem.tail _ (List.Mem.tail _ (List.Mem.tail _ (List.Mem.tail _ (List.Mem.tail _ (List.Mem.tail _ (List.Mem.tail _ (List.Mem.tail _ (List.Mem.head _)))))))))
  have fz0 := H.frozen (w.heap.size) 0 (List.Mem.tail _ (List.Mem.tail _ (List.Mem.tail _ (List.Mem.tail _ (List.Mem.tail _ (List.Mem.tail _ (List.Mem.tail _ (List.Mem.tail _ (List.Mem.tail _ (List.Mem.tail _ (List.Mem.head _)))))))))))
  have fz1 := H.frozen (w.heap.size) 1 (List.Mem.tail _ (List.Mem.tail _ (List.Mem.tail _ (List.Mem.tail _ (List.Mem.tail _ (List.Mem.tail _ (List.Mem.tail _ (List.Mem.tail _ (List.Mem.tail _ (List.Mem.tail _ (List.Mem.tail _ (List.Mem.head _))))))))))))
  have HK := H.old
  clear H
  go_wp2_with fail
  exact bodyPost_ret (v := .tuple #[.agg #[.int .i64 0, .int .i64 0], .int .i64 4]) (by simp [results, Tryz.results50, go_sem, cz0, cz1, lz]) rfl ⟨rfl, by repeat (first | exact HK | refine Below.drew ?_ | refine Below.setCell ?_ (by simp <;> omega) _ | refine Below.alloc ?_ (by simp <;> omega) _)⟩

theorem byyears_any (a b p q c : Int) (w : World) (hF : Facts_ac w) (h : AcIs yX 133590 a b p q c) : Calls Tryz.prog 50 #[.int .i64 a, .int .i64 b] w fun e' w' => e' = .returned (.tuple #[.agg #[.int .i64 p, .int .i64 q], .int .i64 c]) ∧ Below w.heap.size w w' := by
  rcases h with ⟨y1, m1, d1, y2, m2, d2, h1, ha, h2, hb, hab, hp, hq, rfl⟩ | ⟨h, rfl, rfl, rfl⟩ | ⟨h1, h2, h, rfl, rfl, rfl⟩
  · exact byyears_ok a b y1 m1 d1 y2 m2 d2 p q w hF h1 ha h2 hb hab hp hq
  · exact byyears_day a b w hF h
  · exact byyears_order a b w hF h1 h2 h
theorem ways_ac : Ways_ac where
  by360 a b p q c w hF h := by360_any a b p q c w hF h
  by365 a b p q c w hF h := by365_any a b p q c w hF h
  byyears a b p q c w hF h := byyears_any a b p q c w hF h
end Go.Proofs.YtkmchbllnfoccaaGreatDoor
