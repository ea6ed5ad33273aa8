/- CivilSpans: the walk. -/
import Derived.Test.YthnondaheppkiaaDoorCShown
namespace Go.Proofs.YthnondaheppkiaaDoor
open Go.RowKit
set_option linter.unusedVariables false
set_option linter.unusedSimpArgs false

/-- How many leap years there are from y to the year ahead of b. -/
def lcnt (y b : Int) : Int := ah b - ah y - 365 * (b - y)
theorem lc_same (y : Int) : lcnt y y = 0 := by unfold lcnt; omega
theorem lc_step (y b : Int) : lcnt y (b + 1) = lcnt y b + if lp b = true then 1 else 0 := by
  have h := ah_step b
  unfold yl at h
  unfold lcnt
  split at h <;> rename_i hb
  · rw [if_pos hb]; omega
  · rw [if_neg hb]; omega
theorem lc_bd (y b : Int) (h : y ≤ b) : 0 ≤ lcnt y b ∧ lcnt y b ≤ b - y := by unfold lcnt ah; omega
/-- The same day of a later year, ahead of March. -/
theorem span_early (y m d K : Int) (hm : m ≤ 2) : nb (y + K) m d - nb y m d = 365 * K + lcnt y (y + K) := by
  unfold nb am lcnt; rw [if_neg (by omega), if_neg (by omega)]; omega
/-- The same day of a later year, from March on. -/
theorem span_late (y m d K : Int) (hm : 2 < m) : nb (y + K) m d - nb y m d = 365 * K + lcnt (y + 1) (y + K + 1) := by
  have h1 := ah_step y
  have h2 := ah_step (y + K)
  unfold yl at h1 h2
  unfold nb am lcnt
  by_cases a : lp y = true <;> by_cases b : lp (y + K) = true
  · rw [if_pos a] at h1; rw [if_pos b] at h2; rw [if_pos ⟨hm, b⟩, if_pos ⟨hm, a⟩]; omega
  · rw [if_pos a] at h1; rw [if_neg b] at h2; rw [if_neg (fun h => b h.2), if_pos ⟨hm, a⟩]; omega
  · rw [if_neg a] at h1; rw [if_pos b] at h2; rw [if_pos ⟨hm, b⟩, if_neg (fun h => a h.2)]; omega
  · rw [if_neg a] at h1; rw [if_neg b] at h2; rw [if_neg (fun h => b h.2), if_neg (fun h => a h.2)]; omega

set_option maxHeartbeats 4000000 in
set_option maxRecDepth 100000 in
theorem cspans_0 (y m d u : Int) (w : World) (hL : Lens w) (u0 : 0 ≤ u) (u1 : u < 65536) (h1 : ¬ may y m d) :
    Calls Tryd.prog 8 #[.agg #[.int .i64 y, .int .i64 m, .int .i64 d], .int .u16 u] w fun e w' => e = .returned (.bool true) ∧ Below w.heap.size w w' := by
  have H := (Held.start w).add (f := lensF) hL
  clear hL
  have u9 : 0 ≤ u % 401 ∧ u % 401 < 401 := by omega
  have HM := Lib.hid ((mb_not y m d).2 h1)
  clear h1
  go_enter Tryd.func8, Tryd.ntmps8
  go_wp2_with fail
  replace H := (H.triple (w.heap.size) (.int .i64 y) (.int .i64 m) (.int .i64 d) 23 rfl)
  (with_reducible refine (cshown_any _ (H.lens (List.Mem.tail _ (List.Mem.tail _ (List.Mem.tail _ (List.Mem.tail _ (List.Mem.tail _ (List.Mem.tail _ (List.Mem.head _))))))))).mono ?_)
  rintro e w1 ⟨rfl, hb⟩
  replace H := H.below hb
  clear hb
  have cc0 := H.cell (w.heap.size) 0 (.int .i64 y) (List.Mem.head _)
  have cc1 := H.cell (w.heap.size) 1 (.int .i64 m) (List.Mem.tail _ (List.Mem.head _))
  have cc2 := H.cell (w.heap.size) 2 (.int .i64 d) (List.Mem.tail _ (List.Mem.tail _ (List.Mem.head _)))
  have lc := H.lt (w.heap.size) 0 (.int .i64 y) (List.Mem.head _)
  go_wp2_with fail
  clear cc0 cc1 cc2 lc
  (with_reducible refine (rmay_is y m d false _ HM.out).mono ?_)
  rintro e w2 ⟨rfl, hb⟩
  replace H := H.below hb
  clear hb
  have HZ := H.old
  clear H
  go_wp2
  all_goals
    go_ret
    exact ⟨rfl, HZ⟩

set_option maxHeartbeats 4000000 in
set_option maxRecDepth 100000 in
theorem cspans_1 (y m d u : Int) (w : World) (hL : Lens w) (u0 : 0 ≤ u) (u1 : u < 65536) (h1 : may y m d) (hf : m = 2 ∧ d = 29) :
    Calls Tryd.prog 8 #[.agg #[.int .i64 y, .int .i64 m, .int .i64 d], .int .u16 u] w fun e w' => e = .returned (.bool true) ∧ Below w.heap.size w w' := by
  have H := (Held.start w).add (f := lensF) hL
  clear hL
  have u9 : 0 ≤ u % 401 ∧ u % 401 < 401 := by omega
  have HM := Lib.hid ((mb_iff y m d).2 h1)
  obtain ⟨rfl, rfl⟩ := hf
  clear h1
  go_enter Tryd.func8, Tryd.ntmps8
  go_wp2_with fail
  replace H := (H.triple (w.heap.size) (.int .i64 y) (.int .i64 2) (.int .i64 29) 23 rfl)
  (with_reducible refine (cshown_any _ (H.lens (List.Mem.tail _ (List.Mem.tail _ (List.Mem.tail _ (List.Mem.tail _ (List.Mem.tail _ (List.Mem.tail _ (List.Mem.head _))))))))).mono ?_)
  rintro e w1 ⟨rfl, hb⟩
  replace H := H.below hb
  clear hb
  have cc0 := H.cell (w.heap.size) 0 (.int .i64 y) (List.Mem.head _)
  have cc1 := H.cell (w.heap.size) 1 (.int .i64 2) (List.Mem.tail _ (List.Mem.head _))
  have cc2 := H.cell (w.heap.size) 2 (.int .i64 29) (List.Mem.tail _ (List.Mem.tail _ (List.Mem.head _)))
  have lc := H.lt (w.heap.size) 0 (.int .i64 y) (List.Mem.head _)
  go_wp2_with fail
  clear cc0 cc1 cc2 lc
  (with_reducible refine (rmay_is y 2 29 true _ HM.out).mono ?_)
  rintro e w2 ⟨rfl, hb⟩
  replace H := H.below hb
  clear hb
  have cc0 := H.cell (w.heap.size) 0 (.int .i64 y) (List.Mem.head _)
  have cc1 := H.cell (w.heap.size) 1 (.int .i64 2) (List.Mem.tail _ (List.Mem.head _))
  have cc2 := H.cell (w.heap.size) 2 (.int .i64 29) (List.Mem.tail _ (List.Mem.tail _ (List.Mem.head _)))
  have lc := H.lt (w.heap.size) 0 (.int .i64 y) (List.Mem.head _)
  have HZ := H.old
  clear H
  go_wp2
  all_goals
    go_ret
    exact ⟨rfl, HZ⟩

set_option maxHeartbeats 4000000 in
set_option maxRecDepth 100000 in
theorem cspans_2 (y m d u : Int) (w : World) (hL : Lens w) (u0 : 0 ≤ u) (u1 : u < 65536) (h1 : may y m d) (hf : ¬ (m = 2 ∧ d = 29)) (hy : 9999 < y + u % 401) :
    Calls Tryd.prog 8 #[.agg #[.int .i64 y, .int .i64 m, .int .i64 d], .int .u16 u] w fun e w' => e = .returned (.bool true) ∧ Below w.heap.size w w' := by
  have H := (Held.start w).add (f := lensF) hL
  clear hL
  have u9 : 0 ≤ u % 401 ∧ u % 401 < 401 := by omega
  have HM := Lib.hid ((mb_iff y m d).2 h1)
  have yy : 1 ≤ y ∧ y ≤ 9999 := ⟨h1.1, h1.2.1⟩
  clear h1
  go_enter Tryd.func8, Tryd.ntmps8
  go_wp2_with fail
  replace H := (H.triple (w.heap.size) (.int .i64 y) (.int .i64 m) (.int .i64 d) 23 rfl)
  (with_reducible refine (cshown_any _ (H.lens (List.Mem.tail _ (List.Mem.tail _ (List.Mem.tail _ (List.Mem.tail _ (List.Mem.tail _ (List.Mem.tail _ (List.Mem.head _))))))))).mono ?_)
  rintro e w1 ⟨rfl, hb⟩
  replace H := H.below hb
  clear hb
  have cc0 := H.cell (w.heap.size) 0 (.int .i64 y) (List.Mem.head _)
  have cc1 := H.cell (w.heap.size) 1 (.int .i64 m) (List.Mem.tail _ (List.Mem.head _))
  have cc2 := H.cell (w.heap.size) 2 (.int .i64 d) (List.Mem.tail _ (List.Mem.tail _ (List.Mem.head _)))
  have lc := H.lt (w.heap.size) 0 (.int .i64 y) (List.Mem.head _)
  go_wp2_with fail
  clear cc0 cc1 cc2 lc
  (with_reducible refine (rmay_is y m d true _ HM.out).mono ?_)
  rintro e w2 ⟨rfl, hb⟩
  replace H := H.below hb
  clear hb
  have cc0 := H.cell (w.heap.size) 0 (.int .i64 y) (List.Mem.head _)
  have cc1 := H.cell (w.heap.size) 1 (.int .i64 m) (List.Mem.tail _ (List.Mem.head _))
  have cc2 := H.cell (w.heap.size) 2 (.int .i64 d) (List.Mem.tail _ (List.Mem.tail _ (List.Mem.head _)))
  have lc := H.lt (w.heap.size) 0 (.int .i64 y) (List.Mem.head _)
  have HZ := H.old
  clear H
  go_wp2
  all_goals first | (exfalso; omega) | skip
  all_goals
    go_ret
    exact ⟨rfl, HZ⟩

set_option maxHeartbeats 4000000 in
set_option maxRecDepth 100000 in
theorem cspans_3 (y d u K N M : Int) (w : World) (hL : Lens w) (u0 : 0 ≤ u) (u1 : u < 65536) (h1 : may y 1 d) (hK : u % 401 = K) (hy : y + K ≤ 9999) (hN : nb y 1 d = N) (hM : nb (y + K) 1 d = M)  :
    Calls Tryd.prog 8 #[.agg #[.int .i64 y, .int .i64 1, .int .i64 d], .int .u16 u] w fun e w' => e = .returned (.bool true) ∧ Below w.heap.size w w' := by
  have H := (Held.start w).add (f := lensF) hL
  clear hL
  have u9 : 0 ≤ u % 401 ∧ u % 401 < 401 := by omega
  have HM := Lib.hid ((mb_iff y 1 d).2 h1)
  have b1 := nb_bd y 1 d h1
  rw [hN] at b1
  have HN : Hid (nN y 1 d = N ∧ nE y 1 d = 0) := Lib.hid (by rw [← hN]; exact n_yes h1)
  obtain ⟨y1, y2, m1, m2, d1, d2⟩ := h1
  have k9 : 0 ≤ K ∧ K < 401 := by omega
  have y9 : y + u % 401 ≤ 9999 := by omega
  have d28 : d ≤ ln (y + K) 1 := by unfold ln l0 at d2 ⊢; omega
  have d31 : d ≤ 31 := by have := ln_le y 1; omega
  have h2 : may (y + K) 1 d := ⟨by omega, hy, m1, m2, d1, d28⟩
  have b2 := nb_bd (y + K) 1 d h2
  rw [hM] at b2
  have HO : Hid (nN (y + K) 1 d = M ∧ nE (y + K) 1 d = 0) := Lib.hid (by rw [← hM]; exact n_yes h2)
  have SP := span_early y 1 d K (by omega)
  rw [hN, hM] at SP
  have HSP := Lib.hid SP
  have HK := Lib.hid hK

  clear SP h2 d28 d2 hN hM hK
  go_enter Tryd.func8, Tryd.ntmps8
  go_wp2_with fail
  replace H := (H.triple (w.heap.size) (.int .i64 y) (.int .i64 1) (.int .i64 d) 23 rfl)
  (with_reducible refine (cshown_any _ (H.lens (List.Mem.tail _ (List.Mem.tail _ (List.Mem.tail _ (List.Mem.tail _ (List.Mem.tail _ (List.Mem.tail _ (List.Mem.head _))))))))).mono ?_)
  rintro e w1 ⟨rfl, hb⟩
  replace H := H.below hb
  clear hb
  have cc0 := H.cell (w.heap.size) 0 (.int .i64 y) (List.Mem.head _)
  have cc1 := H.cell (w.heap.size) 1 (.int .i64 1) (List.Mem.tail _ (List.Mem.head _))
  have cc2 := H.cell (w.heap.size) 2 (.int .i64 d) (List.Mem.tail _ (List.Mem.tail _ (List.Mem.head _)))
  have lc := H.lt (w.heap.size) 0 (.int .i64 y) (List.Mem.head _)
  go_wp2_with fail
  clear cc0 cc1 cc2 lc
  (with_reducible refine (rmay_is y 1 d true _ HM.out).mono ?_)
  rintro e w2 ⟨rfl, hb⟩
  replace H := H.below hb
  clear hb
  have cc0 := H.cell (w.heap.size) 0 (.int .i64 y) (List.Mem.head _)
  have cc1 := H.cell (w.heap.size) 1 (.int .i64 1) (List.Mem.tail _ (List.Mem.head _))
  have cc2 := H.cell (w.heap.size) 2 (.int .i64 d) (List.Mem.tail _ (List.Mem.tail _ (List.Mem.head _)))
  have lc := H.lt (w.heap.size) 0 (.int .i64 y) (List.Mem.head _)
  go_wp2_with fail
  clear cc0 cc1 cc2 lc
  rw [HK.out]
  (with_reducible refine (number_is y 1 d N 0 _ (H.lens (List.Mem.tail _ (List.Mem.tail _ (List.Mem.tail _ (List.Mem.tail _ (List.Mem.tail _ (List.Mem.tail _ (List.Mem.head _)))))))) HN.out).mono ?_)
  rintro e w3 ⟨rfl, hb⟩
  replace H := H.below hb
  clear hb
  have cc0 := H.cell (w.heap.size) 0 (.int .i64 y) (List.Mem.head _)
  have cc1 := H.cell (w.heap.size) 1 (.int .i64 1) (List.Mem.tail _ (List.Mem.head _))
  have cc2 := H.cell (w.heap.size) 2 (.int .i64 d) (List.Mem.tail _ (List.Mem.tail _ (List.Mem.head _)))
  have lc := H.lt (w.heap.size) 0 (.int .i64 y) (List.Mem.head _)
  go_wp2_with fail
  clear cc0 cc1 cc2 lc
  (with_reducible refine (number_is (y + K) 1 d M 0 _ (H.lens (List.Mem.tail _ (List.Mem.tail _ (List.Mem.tail _ (List.Mem.tail _ (List.Mem.tail _ (List.Mem.tail _ (List.Mem.head _)))))))) HO.out).mono ?_)
  rintro e w4 ⟨rfl, hb⟩
  replace H := H.below hb
  clear hb
  have cc0 := H.cell (w.heap.size) 0 (.int .i64 y) (List.Mem.head _)
  have cc1 := H.cell (w.heap.size) 1 (.int .i64 1) (List.Mem.tail _ (List.Mem.head _))
  have cc2 := H.cell (w.heap.size) 2 (.int .i64 d) (List.Mem.tail _ (List.Mem.tail _ (List.Mem.head _)))
  have lc := H.lt (w.heap.size) 0 (.int .i64 y) (List.Mem.head _)
  have HZ := H.old
  clear H
  go_wp2
  go_loop [11, 12] (fun n i => ∃ b V : Int, y ≤ b ∧ b ≤ y + K + 1 ∧ i = .int .i64 b ∧ n = .int .i64 V ∧ V = lcnt y (min b (y + K))) (fun _ i => (y + K + 1 - intOf i).toNat)
  case atStart => exact ⟨y, 0, by omega, by omega, rfl, rfl, by rw [show min y (y + K) = y by omega, lc_same]⟩
  case round =>
    obtain ⟨b, V, q1, q2, rfl, rfl, hV⟩ := hrel
    have bd := lc_bd y (min b (y + K)) (by omega)
    rw [← hV] at bd
    have v9 : 0 ≤ V ∧ V ≤ 401 := by omega
    have HV := Lib.hid hV
    clear hV bd
    by_cases hq : b < y + K
    · have st := Lib.hid (lc_step y b)
      go_wp2_with fail
      all_goals
        (with_reducible refine (leap_any _ _).mono ?_)
        rintro e v1 ⟨rfl, rfl⟩
        obtain ⟨c, HC⟩ : ∃ c, Hid (lp b = c) := ⟨_, Lib.hid rfl⟩
        rw [HC.out] at st ⊢
        cases c
        · go_wp2
          go_round
          case rel => exact ⟨b + 1, V, by omega, by omega, rfl, rfl, by rw [HV.out, show min b (y + K) = b by omega, show min (b + 1) (y + K) = b + 1 by omega, st.out]; simp⟩
          case measure => simp [intOf]; omega
        · go_wp2
          go_round
          case rel => exact ⟨b + 1, V + 1, by omega, by omega, rfl, rfl, by rw [HV.out, show min b (y + K) = b by omega, show min (b + 1) (y + K) = b + 1 by omega, st.out]; simp⟩
          case measure => simp [intOf]; omega
    · by_cases he : b = y + K
      · subst he
        go_wp2_with fail
        all_goals
          (with_reducible refine (leap_any _ _).mono ?_)
          rintro e v1 ⟨rfl, rfl⟩
          obtain ⟨c, HC⟩ : ∃ c, Hid (lp (y + K) = c) := ⟨_, Lib.hid rfl⟩
          rw [HC.out]
          cases c
          · go_wp2
            go_round
            case rel => exact ⟨y + K + 1, V, by omega, by omega, rfl, rfl, by rw [HV.out, show min (y + K) (y + K) = y + K by omega, show min (y + K + 1) (y + K) = y + K by omega]⟩
            case measure => simp [intOf]; omega
          · go_wp2
            go_round
            case rel => exact ⟨y + K + 1, V, by omega, by omega, rfl, rfl, by rw [HV.out, show min (y + K) (y + K) = y + K by omega, show min (y + K + 1) (y + K) = y + K by omega]⟩
            case measure => simp [intOf]; omega
      · have e : b = y + K + 1 := by omega
        subst e
        have e2 : M - N = 365 * K + V := by rw [HV.out, show min (y + K + 1) (y + K) = y + K by omega]; exact HSP.out
        have e3 : M = N + (365 * K + V) := by omega
        subst e3
        clear e2
        go_wp2
        go_ret
        exact ⟨retB (by rw [beq_iff_eq]; omega), HZ⟩

set_option maxHeartbeats 4000000 in
set_option maxRecDepth 100000 in
theorem cspans_4 (y d u K N M : Int) (w : World) (hL : Lens w) (u0 : 0 ≤ u) (u1 : u < 65536) (h1 : may y 2 d) (hK : u % 401 = K) (hy : y + K ≤ 9999) (hN : nb y 2 d = N) (hM : nb (y + K) 2 d = M) (hd : d ≠ 29) :
    Calls Tryd.prog 8 #[.agg #[.int .i64 y, .int .i64 2, .int .i64 d], .int .u16 u] w fun e w' => e = .returned (.bool true) ∧ Below w.heap.size w w' := by
  have H := (Held.start w).add (f := lensF) hL
  clear hL
  have u9 : 0 ≤ u % 401 ∧ u % 401 < 401 := by omega
  have HM := Lib.hid ((mb_iff y 2 d).2 h1)
  have b1 := nb_bd y 2 d h1
  rw [hN] at b1
  have HN : Hid (nN y 2 d = N ∧ nE y 2 d = 0) := Lib.hid (by rw [← hN]; exact n_yes h1)
  obtain ⟨y1, y2, m1, m2, d1, d2⟩ := h1
  have k9 : 0 ≤ K ∧ K < 401 := by omega
  have y9 : y + u % 401 ≤ 9999 := by omega
  have d28 : d ≤ ln (y + K) 2 := by unfold ln l0 at d2 ⊢; omega
  have d31 : d ≤ 31 := by have := ln_le y 2; omega
  have h2 : may (y + K) 2 d := ⟨by omega, hy, m1, m2, d1, d28⟩
  have b2 := nb_bd (y + K) 2 d h2
  rw [hM] at b2
  have HO : Hid (nN (y + K) 2 d = M ∧ nE (y + K) 2 d = 0) := Lib.hid (by rw [← hM]; exact n_yes h2)
  have SP := span_early y 2 d K (by omega)
  rw [hN, hM] at SP
  have HSP := Lib.hid SP
  have HK := Lib.hid hK
  have t1 : (d == 29) = false := beq_eq_false_iff_ne.2 hd
  clear SP h2 d28 d2 hN hM hK
  go_enter Tryd.func8, Tryd.ntmps8
  go_wp2_with fail
  replace H := (H.triple (w.heap.size) (.int .i64 y) (.int .i64 2) (.int .i64 d) 23 rfl)
  (with_reducible refine (cshown_any _ (H.lens (List.Mem.tail _ (List.Mem.tail _ (List.Mem.tail _ (List.Mem.tail _ (List.Mem.tail _ (List.Mem.tail _ (List.Mem.head _))))))))).mono ?_)
  rintro e w1 ⟨rfl, hb⟩
  replace H := H.below hb
  clear hb
  have cc0 := H.cell (w.heap.size) 0 (.int .i64 y) (List.Mem.head _)
  have cc1 := H.cell (w.heap.size) 1 (.int .i64 2) (List.Mem.tail _ (List.Mem.head _))
  have cc2 := H.cell (w.heap.size) 2 (.int .i64 d) (List.Mem.tail _ (List.Mem.tail _ (List.Mem.head _)))
  have lc := H.lt (w.heap.size) 0 (.int .i64 y) (List.Mem.head _)
  go_wp2_with fail
  clear cc0 cc1 cc2 lc
  (with_reducible refine (rmay_is y 2 d true _ HM.out).mono ?_)
  rintro e w2 ⟨rfl, hb⟩
  replace H := H.below hb
  clear hb
  have cc0 := H.cell (w.heap.size) 0 (.int .i64 y) (List.Mem.head _)
  have cc1 := H.cell (w.heap.size) 1 (.int .i64 2) (List.Mem.tail _ (List.Mem.head _))
  have cc2 := H.cell (w.heap.size) 2 (.int .i64 d) (List.Mem.tail _ (List.Mem.tail _ (List.Mem.head _)))
  have lc := H.lt (w.heap.size) 0 (.int .i64 y) (List.Mem.head _)
  go_wp2_with fail
  clear cc0 cc1 cc2 lc
  rw [HK.out]
  (with_reducible refine (number_is y 2 d N 0 _ (H.lens (List.Mem.tail _ (List.Mem.tail _ (List.Mem.tail _ (List.Mem.tail _ (List.Mem.tail _ (List.Mem.tail _ (List.Mem.head _)))))))) HN.out).mono ?_)
  rintro e w3 ⟨rfl, hb⟩
  replace H := H.below hb
  clear hb
  have cc0 := H.cell (w.heap.size) 0 (.int .i64 y) (List.Mem.head _)
  have cc1 := H.cell (w.heap.size) 1 (.int .i64 2) (List.Mem.tail _ (List.Mem.head _))
  have cc2 := H.cell (w.heap.size) 2 (.int .i64 d) (List.Mem.tail _ (List.Mem.tail _ (List.Mem.head _)))
  have lc := H.lt (w.heap.size) 0 (.int .i64 y) (List.Mem.head _)
  go_wp2_with fail
  clear cc0 cc1 cc2 lc
  (with_reducible refine (number_is (y + K) 2 d M 0 _ (H.lens (List.Mem.tail _ (List.Mem.tail _ (List.Mem.tail _ (List.Mem.tail _ (List.Mem.tail _ (List.Mem.tail _ (List.Mem.head _)))))))) HO.out).mono ?_)
  rintro e w4 ⟨rfl, hb⟩
  replace H := H.below hb
  clear hb
  have cc0 := H.cell (w.heap.size) 0 (.int .i64 y) (List.Mem.head _)
  have cc1 := H.cell (w.heap.size) 1 (.int .i64 2) (List.Mem.tail _ (List.Mem.head _))
  have cc2 := H.cell (w.heap.size) 2 (.int .i64 d) (List.Mem.tail _ (List.Mem.tail _ (List.Mem.head _)))
  have lc := H.lt (w.heap.size) 0 (.int .i64 y) (List.Mem.head _)
  have HZ := H.old
  clear H
  go_wp2
  go_loop [11, 12] (fun n i => ∃ b V : Int, y ≤ b ∧ b ≤ y + K + 1 ∧ i = .int .i64 b ∧ n = .int .i64 V ∧ V = lcnt y (min b (y + K))) (fun _ i => (y + K + 1 - intOf i).toNat)
  case atStart => exact ⟨y, 0, by omega, by omega, rfl, rfl, by rw [show min y (y + K) = y by omega, lc_same]⟩
  case round =>
    obtain ⟨b, V, q1, q2, rfl, rfl, hV⟩ := hrel
    have bd := lc_bd y (min b (y + K)) (by omega)
    rw [← hV] at bd
    have v9 : 0 ≤ V ∧ V ≤ 401 := by omega
    have HV := Lib.hid hV
    clear hV bd
    by_cases hq : b < y + K
    · have st := Lib.hid (lc_step y b)
      go_wp2_with fail
      all_goals
        (with_reducible refine (leap_any _ _).mono ?_)
        rintro e v1 ⟨rfl, rfl⟩
        obtain ⟨c, HC⟩ : ∃ c, Hid (lp b = c) := ⟨_, Lib.hid rfl⟩
        rw [HC.out] at st ⊢
        cases c
        · go_wp2
          go_round
          case rel => exact ⟨b + 1, V, by omega, by omega, rfl, rfl, by rw [HV.out, show min b (y + K) = b by omega, show min (b + 1) (y + K) = b + 1 by omega, st.out]; simp⟩
          case measure => simp [intOf]; omega
        · go_wp2
          go_round
          case rel => exact ⟨b + 1, V + 1, by omega, by omega, rfl, rfl, by rw [HV.out, show min b (y + K) = b by omega, show min (b + 1) (y + K) = b + 1 by omega, st.out]; simp⟩
          case measure => simp [intOf]; omega
    · by_cases he : b = y + K
      · subst he
        go_wp2_with fail
        all_goals
          (with_reducible refine (leap_any _ _).mono ?_)
          rintro e v1 ⟨rfl, rfl⟩
          obtain ⟨c, HC⟩ : ∃ c, Hid (lp (y + K) = c) := ⟨_, Lib.hid rfl⟩
          rw [HC.out]
          cases c
          · go_wp2
            go_round
            case rel => exact ⟨y + K + 1, V, by omega, by omega, rfl, rfl, by rw [HV.out, show min (y + K) (y + K) = y + K by omega, show min (y + K + 1) (y + K) = y + K by omega]⟩
            case measure => simp [intOf]; omega
          · go_wp2
            go_round
            case rel => exact ⟨y + K + 1, V, by omega, by omega, rfl, rfl, by rw [HV.out, show min (y + K) (y + K) = y + K by omega, show min (y + K + 1) (y + K) = y + K by omega]⟩
            case measure => simp [intOf]; omega
      · have e : b = y + K + 1 := by omega
        subst e
        have e2 : M - N = 365 * K + V := by rw [HV.out, show min (y + K + 1) (y + K) = y + K by omega]; exact HSP.out
        have e3 : M = N + (365 * K + V) := by omega
        subst e3
        clear e2
        go_wp2
        go_ret
        exact ⟨retB (by rw [beq_iff_eq]; omega), HZ⟩

set_option maxHeartbeats 4000000 in
set_option maxRecDepth 100000 in
theorem cspans_5 (y m d u K N M : Int) (w : World) (hL : Lens w) (u0 : 0 ≤ u) (u1 : u < 65536) (h1 : may y m d) (hK : u % 401 = K) (hy : y + K ≤ 9999) (hN : nb y m d = N) (hM : nb (y + K) m d = M) (hm : 2 < m) :
    Calls Tryd.prog 8 #[.agg #[.int .i64 y, .int .i64 m, .int .i64 d], .int .u16 u] w fun e w' => e = .returned (.bool true) ∧ Below w.heap.size w w' := by
  have H := (Held.start w).add (f := lensF) hL
  clear hL
  have u9 : 0 ≤ u % 401 ∧ u % 401 < 401 := by omega
  have HM := Lib.hid ((mb_iff y m d).2 h1)
  have b1 := nb_bd y m d h1
  rw [hN] at b1
  have HN : Hid (nN y m d = N ∧ nE y m d = 0) := Lib.hid (by rw [← hN]; exact n_yes h1)
  obtain ⟨y1, y2, m1, m2, d1, d2⟩ := h1
  have k9 : 0 ≤ K ∧ K < 401 := by omega
  have y9 : y + u % 401 ≤ 9999 := by omega
  have d28 : d ≤ ln (y + K) m := by unfold ln l0 at d2 ⊢; omega
  have d31 : d ≤ 31 := by have := ln_le y m; omega
  have h2 : may (y + K) m d := ⟨by omega, hy, m1, m2, d1, d28⟩
  have b2 := nb_bd (y + K) m d h2
  rw [hM] at b2
  have HO : Hid (nN (y + K) m d = M ∧ nE (y + K) m d = 0) := Lib.hid (by rw [← hM]; exact n_yes h2)
  have SP := span_late y m d K (by omega)
  rw [hN, hM] at SP
  have HSP := Lib.hid SP
  have HK := Lib.hid hK

  clear SP h2 d28 d2 hN hM hK
  go_enter Tryd.func8, Tryd.ntmps8
  go_wp2_with fail
  replace H := (H.triple (w.heap.size) (.int .i64 y) (.int .i64 m) (.int .i64 d) 23 rfl)
  (with_reducible refine (cshown_any _ (H.lens (List.Mem.tail _ (List.Mem.tail _ (List.Mem.tail _ (List.Mem.tail _ (List.Mem.tail _ (List.Mem.tail _ (List.Mem.head _))))))))).mono ?_)
  rintro e w1 ⟨rfl, hb⟩
  replace H := H.below hb
  clear hb
  have cc0 := H.cell (w.heap.size) 0 (.int .i64 y) (List.Mem.head _)
  have cc1 := H.cell (w.heap.size) 1 (.int .i64 m) (List.Mem.tail _ (List.Mem.head _))
  have cc2 := H.cell (w.heap.size) 2 (.int .i64 d) (List.Mem.tail _ (List.Mem.tail _ (List.Mem.head _)))
  have lc := H.lt (w.heap.size) 0 (.int .i64 y) (List.Mem.head _)
  go_wp2_with fail
  clear cc0 cc1 cc2 lc
  (with_reducible refine (rmay_is y m d true _ HM.out).mono ?_)
  rintro e w2 ⟨rfl, hb⟩
  replace H := H.below hb
  clear hb
  have cc0 := H.cell (w.heap.size) 0 (.int .i64 y) (List.Mem.head _)
  have cc1 := H.cell (w.heap.size) 1 (.int .i64 m) (List.Mem.tail _ (List.Mem.head _))
  have cc2 := H.cell (w.heap.size) 2 (.int .i64 d) (List.Mem.tail _ (List.Mem.tail _ (List.Mem.head _)))
  have lc := H.lt (w.heap.size) 0 (.int .i64 y) (List.Mem.head _)
  go_wp2_with fail
  clear cc0 cc1 cc2 lc
  rw [HK.out]
  (with_reducible refine (number_is y m d N 0 _ (H.lens (List.Mem.tail _ (List.Mem.tail _ (List.Mem.tail _ (List.Mem.tail _ (List.Mem.tail _ (List.Mem.tail _ (List.Mem.head _)))))))) HN.out).mono ?_)
  rintro e w3 ⟨rfl, hb⟩
  replace H := H.below hb
  clear hb
  have cc0 := H.cell (w.heap.size) 0 (.int .i64 y) (List.Mem.head _)
  have cc1 := H.cell (w.heap.size) 1 (.int .i64 m) (List.Mem.tail _ (List.Mem.head _))
  have cc2 := H.cell (w.heap.size) 2 (.int .i64 d) (List.Mem.tail _ (List.Mem.tail _ (List.Mem.head _)))
  have lc := H.lt (w.heap.size) 0 (.int .i64 y) (List.Mem.head _)
  go_wp2_with fail
  clear cc0 cc1 cc2 lc
  (with_reducible refine (number_is (y + K) m d M 0 _ (H.lens (List.Mem.tail _ (List.Mem.tail _ (List.Mem.tail _ (List.Mem.tail _ (List.Mem.tail _ (List.Mem.tail _ (List.Mem.head _)))))))) HO.out).mono ?_)
  rintro e w4 ⟨rfl, hb⟩
  replace H := H.below hb
  clear hb
  have cc0 := H.cell (w.heap.size) 0 (.int .i64 y) (List.Mem.head _)
  have cc1 := H.cell (w.heap.size) 1 (.int .i64 m) (List.Mem.tail _ (List.Mem.head _))
  have cc2 := H.cell (w.heap.size) 2 (.int .i64 d) (List.Mem.tail _ (List.Mem.tail _ (List.Mem.head _)))
  have lc := H.lt (w.heap.size) 0 (.int .i64 y) (List.Mem.head _)
  have HZ := H.old
  clear H
  go_wp2
  go_loop [11, 12] (fun n i => ∃ b V : Int, y ≤ b ∧ b ≤ y + K + 1 ∧ i = .int .i64 b ∧ n = .int .i64 V ∧ V = lcnt (y + 1) (max b (y + 1))) (fun _ i => (y + K + 1 - intOf i).toNat)
  case atStart => exact ⟨y, 0, by omega, by omega, rfl, rfl, by rw [show max y (y + 1) = y + 1 by omega, lc_same]⟩
  case round =>
    obtain ⟨b, V, q1, q2, rfl, rfl, hV⟩ := hrel
    have bd := lc_bd (y + 1) (max b (y + 1)) (by omega)
    rw [← hV] at bd
    have v9 : 0 ≤ V ∧ V ≤ 401 := by omega
    have HV := Lib.hid hV
    clear hV bd
    by_cases hq : b = y
    · subst hq
      go_wp2_with fail
      all_goals
        (with_reducible refine (leap_any _ _).mono ?_)
        rintro e v1 ⟨rfl, rfl⟩
        obtain ⟨c, HC⟩ : ∃ c, Hid (lp b = c) := ⟨_, Lib.hid rfl⟩
        rw [HC.out]
        cases c
        · go_wp2
          go_round
          case rel => exact ⟨b + 1, V, by omega, by omega, rfl, rfl, by rw [HV.out, show max b (b + 1) = b + 1 by omega, show max (b + 1) (b + 1) = b + 1 by omega]⟩
          case measure => simp [intOf]; omega
        · go_wp2
          go_round
          case rel => exact ⟨b + 1, V, by omega, by omega, rfl, rfl, by rw [HV.out, show max b (b + 1) = b + 1 by omega, show max (b + 1) (b + 1) = b + 1 by omega]⟩
          case measure => simp [intOf]; omega
    · by_cases he : b ≤ y + K
      · have q3 : y < b := by omega
        have st := Lib.hid (lc_step (y + 1) b)
        go_wp2_with fail
        all_goals
          (with_reducible refine (leap_any _ _).mono ?_)
          rintro e v1 ⟨rfl, rfl⟩
          obtain ⟨c, HC⟩ : ∃ c, Hid (lp b = c) := ⟨_, Lib.hid rfl⟩
          rw [HC.out] at st ⊢
          cases c
          · go_wp2
            go_round
            case rel => exact ⟨b + 1, V, by omega, by omega, rfl, rfl, by rw [HV.out, show max b (y + 1) = b by omega, show max (b + 1) (y + 1) = b + 1 by omega, st.out]; simp⟩
            case measure => simp [intOf]; omega
          · go_wp2
            go_round
            case rel => exact ⟨b + 1, V + 1, by omega, by omega, rfl, rfl, by rw [HV.out, show max b (y + 1) = b by omega, show max (b + 1) (y + 1) = b + 1 by omega, st.out]; simp⟩
            case measure => simp [intOf]; omega
      · have e : b = y + K + 1 := by omega
        subst e
        have e2 : M - N = 365 * K + V := by rw [HV.out, show max (y + K + 1) (y + 1) = y + K + 1 by omega]; exact HSP.out
        have e3 : M = N + (365 * K + V) := by omega
        subst e3
        clear e2
        go_wp2
        go_ret
        exact ⟨retB (by rw [beq_iff_eq]; omega), HZ⟩

theorem cspans_walk (y m d u : Int) (w : World) (hL : Lens w) (hy : -9223372036854775808 ≤ y ∧ y < 9223372036854775808) (hm : -9223372036854775808 ≤ m ∧ m < 9223372036854775808) (hd : -9223372036854775808 ≤ d ∧ d < 9223372036854775808) (hu : 0 ≤ u ∧ u < 65536) :
    Calls Tryd.prog 8 #[.agg #[.int .i64 y, .int .i64 m, .int .i64 d], .int .u16 u] w fun e w' => e = .returned (.bool true) ∧ Below w.heap.size w w' := by
  by_cases h1 : may y m d
  · by_cases h2 : m = 2 ∧ d = 29
    · exact cspans_1 y m d u w hL hu.1 hu.2 h1 h2
    · by_cases h3 : 9999 < y + u % 401
      · exact cspans_2 y m d u w hL hu.1 hu.2 h1 h2 h3
      · by_cases h4 : m ≤ 2
        · by_cases h5 : m = 2
          · subst h5; exact cspans_4 y d u _ _ _ w hL hu.1 hu.2 h1 rfl (by omega) rfl rfl (by omega)
          · have h6 : m = 1 := by have := h1.2.2.1; omega
            subst h6; exact cspans_3 y d u _ _ _ w hL hu.1 hu.2 h1 rfl (by omega) rfl rfl
        · exact cspans_5 y m d u _ _ _ w hL hu.1 hu.2 h1 rfl (by omega) rfl rfl (by omega)
  · exact cspans_0 y m d u w hL hu.1 hu.2 h1
end Go.Proofs.YthnondaheppkiaaDoor
