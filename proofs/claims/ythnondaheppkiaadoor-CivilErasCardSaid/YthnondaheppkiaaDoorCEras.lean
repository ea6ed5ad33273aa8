/- CivilEras: the walk. -/
import Derived.Test.YthnondaheppkiaaDoorCShown
namespace Go.Proofs.YthnondaheppkiaaDoor
open Go.RowKit
set_option linter.unusedVariables false
set_option linter.unusedSimpArgs false

set_option maxHeartbeats 4000000 in
set_option maxRecDepth 100000 in
theorem ceras_0 (y m d : Int) (w : World) (hL : Lens w) (h1 : ¬ may y m d) :
    Calls Tryd.prog 7 #[.agg #[.int .i64 y, .int .i64 m, .int .i64 d]] w fun e w' => e = .returned (.bool true) ∧ Below w.heap.size w w' := by
  have H := (Held.start w).add (f := lensF) hL
  clear hL
  have HN : Hid (nN y m d = 0 ∧ nE y m d = 3) := Lib.hid (n_no h1)
  clear h1
  go_enter Tryd.func7, Tryd.ntmps7
  go_wp2_with fail
  replace H := (H.triple (w.heap.size) (.int .i64 y) (.int .i64 m) (.int .i64 d) 23 rfl)
  (with_reducible refine (cshown_any _ (H.lens (List.Mem.tail _ (List.Mem.tail _ (List.Mem.tail _ (List.Mem.tail _ (List.Mem.tail _ (List.Mem.tail _ (List.Mem.head _))))))))).mono ?_)
  rintro e w1 ⟨rfl, hb⟩
  replace H := H.below hb
  clear hb
  have cc0 := H.cell (w.heap.size) 0 (.int .i64 y) (List.Mem.head _)
  have cc1 := H.cell (w.heap.size) 1 (.int .i64 m) (List.Mem.tail _ (List.Mem.head _))
  have cc2 := H.cell (w.heap.size) 2 (.int .i64 d) (List.Mem.tail _ (List.Mem.tail _ (List.Mem.head _)))
  have lc := H.lt (w.heap.size) 0 (.int .i64 y) (List.Mem.head _)
  go_wp2_with fail
  clear cc0 cc1 cc2 lc
  (with_reducible refine (number_is y m d 0 3 _ (H.lens (List.Mem.tail _ (List.Mem.tail _ (List.Mem.tail _ (List.Mem.tail _ (List.Mem.tail _ (List.Mem.tail _ (List.Mem.head _)))))))) HN.out).mono ?_)
  rintro e w2 ⟨rfl, hb⟩
  replace H := H.below hb
  clear hb
  go_wp2
  go_ret
  exact ⟨rfl, H.old⟩

set_option maxHeartbeats 4000000 in
set_option maxRecDepth 100000 in
theorem ceras_1 (y m d N k F : Int) (b : Bool) (w : World) (hL : Lens w) (h1 : may y m d) (hN : nb y m d = N) (hF : ah y + 1 = F) (hk : wk N = k) (hb : lp y = b) (hy : y ≤ 9599) :
    Calls Tryd.prog 7 #[.agg #[.int .i64 y, .int .i64 m, .int .i64 d]] w fun e w' => e = .returned (.bool true) ∧ Below w.heap.size w w' := by
  have H := (Held.start w).add (f := lensF) hL
  clear hL
  have bd := nb_bd y m d h1
  rw [hN] at bd
  have HN : Hid (nN y m d = N ∧ nE y m d = 0) := Lib.hid (by rw [← hN]; exact n_yes h1)
  obtain ⟨y1, y2, m1, m2, d1, d2⟩ := h1
  have d31 : d ≤ 31 := by have := ln_le y m; omega
  have h4 : may (y + 400) m d := ⟨by omega, by omega, m1, m2, d1, by unfold ln at d2 ⊢; rw [lp_add]; exact d2⟩
  have HM : Hid (nN (y + 400) m d = N + 146097 ∧ nE (y + 400) m d = 0) := Lib.hid (by
    have e : N + 146097 = nb (y + 400) m d := by rw [← hN]; unfold nb am; rw [lp_add, ah_add]; omega
    rw [e]; exact n_yes h4)
  have HK := Lib.hid hk
  have HK2 : Hid (wk (N + 146097) = k) := Lib.hid (by rw [← hk]; unfold wk; omega)
  clear h4
  have f1 : may y 1 1 := ⟨y1, y2, by omega, by omega, by omega, by have := ln_ge y 1 (by omega) (by omega); omega⟩
  have e12 : ln y 12 = 31 := by unfold ln l0; simp
  have f2 : may y 12 31 := ⟨y1, y2, by omega, by omega, by omega, by omega⟩
  have H1 : Hid (nN y 1 1 = F ∧ nE y 1 1 = 0) := Lib.hid (by
    have e : F = nb y 1 1 := by rw [← hF]; unfold nb; rw [am_one]; omega
    rw [e]; exact n_yes f1)
  have H2 : Hid (nN y 12 31 = F + yl y - 1 ∧ nE y 12 31 = 0) := Lib.hid (by
    have e : F + yl y - 1 = nb y 12 31 := by
      have s := am_step y 12 (by omega) (by omega)
      have s2 : am y (12 + 1) = yl y := am_end y
      rw [← hF]; unfold nb; omega
    rw [e]; exact n_yes f2)
  have F1 : 1 ≤ F ∧ F ≤ 4000000 := by have := ah_bd y y1 (by omega); omega
  have hyl : yl y = if b = true then 366 else 365 := by rw [← hb]; rfl
  have HYL := Lib.hid hyl
  have ylb := yl_bd y
  obtain ⟨Y, HY⟩ : ∃ Y, Hid (yl y = Y) := ⟨_, Lib.hid rfl⟩
  rw [HY.out] at H2 HYL ylb
  have HB := Lib.hid hb
  clear f1 f2 e12 hF hN hk hb hyl d2
  go_enter Tryd.func7, Tryd.ntmps7
  go_wp2_with fail
  replace H := (H.triple (w.heap.size) (.int .i64 y) (.int .i64 m) (.int .i64 d) 23 rfl)
  (with_reducible refine (cshown_any _ (H.lens (List.Mem.tail _ (List.Mem.tail _ (List.Mem.tail _ (List.Mem.tail _ (List.Mem.tail _ (List.Mem.tail _ (List.Mem.head _))))))))).mono ?_)
  rintro e w1 ⟨rfl, hb⟩
  replace H := H.below hb
  clear hb
  have cc0 := H.cell (w.heap.size) 0 (.int .i64 y) (List.Mem.head _)
  have cc1 := H.cell (w.heap.size) 1 (.int .i64 m) (List.Mem.tail _ (List.Mem.head _))
  have cc2 := H.cell (w.heap.size) 2 (.int .i64 d) (List.Mem.tail _ (List.Mem.tail _ (List.Mem.head _)))
  have lc := H.lt (w.heap.size) 0 (.int .i64 y) (List.Mem.head _)
  go_wp2_with fail
  clear cc0 cc1 cc2 lc
  (with_reducible refine (number_is y m d N 0 _ (H.lens (List.Mem.tail _ (List.Mem.tail _ (List.Mem.tail _ (List.Mem.tail _ (List.Mem.tail _ (List.Mem.tail _ (List.Mem.head _)))))))) HN.out).mono ?_)
  rintro e w2 ⟨rfl, hb⟩
  replace H := H.below hb
  clear hb
  have cc0 := H.cell (w.heap.size) 0 (.int .i64 y) (List.Mem.head _)
  have cc1 := H.cell (w.heap.size) 1 (.int .i64 m) (List.Mem.tail _ (List.Mem.head _))
  have cc2 := H.cell (w.heap.size) 2 (.int .i64 d) (List.Mem.tail _ (List.Mem.tail _ (List.Mem.head _)))
  have lc := H.lt (w.heap.size) 0 (.int .i64 y) (List.Mem.head _)
  go_wp2_with fail
  clear cc0 cc1 cc2 lc
  (with_reducible refine (number_is (y + 400) m d (N + 146097) 0 _ (H.lens (List.Mem.tail _ (List.Mem.tail _ (List.Mem.tail _ (List.Mem.tail _ (List.Mem.tail _ (List.Mem.tail _ (List.Mem.head _)))))))) HM.out).mono ?_)
  rintro e w3 ⟨rfl, hb⟩
  replace H := H.below hb
  clear hb
  have cc0 := H.cell (w.heap.size) 0 (.int .i64 y) (List.Mem.head _)
  have cc1 := H.cell (w.heap.size) 1 (.int .i64 m) (List.Mem.tail _ (List.Mem.head _))
  have cc2 := H.cell (w.heap.size) 2 (.int .i64 d) (List.Mem.tail _ (List.Mem.tail _ (List.Mem.head _)))
  have lc := H.lt (w.heap.size) 0 (.int .i64 y) (List.Mem.head _)
  go_wp2_with fail
  clear cc0 cc1 cc2 lc
  (with_reducible refine (week_is (N + 146097) k _ HK2.out).mono ?_)
  rintro e w4 ⟨rfl, hb⟩
  replace H := H.below hb
  clear hb
  go_wp2_with fail
  (with_reducible refine (week_is N k _ HK.out).mono ?_)
  rintro e w5 ⟨rfl, hb⟩
  replace H := H.below hb
  clear hb
  have cc0 := H.cell (w.heap.size) 0 (.int .i64 y) (List.Mem.head _)
  have cc1 := H.cell (w.heap.size) 1 (.int .i64 m) (List.Mem.tail _ (List.Mem.head _))
  have cc2 := H.cell (w.heap.size) 2 (.int .i64 d) (List.Mem.tail _ (List.Mem.tail _ (List.Mem.head _)))
  have lc := H.lt (w.heap.size) 0 (.int .i64 y) (List.Mem.head _)
  go_wp2_with fail
  clear cc0 cc1 cc2 lc
  (with_reducible refine (number_is y 1 1 F 0 _ (H.lens (List.Mem.tail _ (List.Mem.tail _ (List.Mem.tail _ (List.Mem.tail _ (List.Mem.tail _ (List.Mem.tail _ (List.Mem.head _)))))))) H1.out).mono ?_)
  rintro e w6 ⟨rfl, hb⟩
  replace H := H.below hb
  clear hb
  have cc0 := H.cell (w.heap.size) 0 (.int .i64 y) (List.Mem.head _)
  have cc1 := H.cell (w.heap.size) 1 (.int .i64 m) (List.Mem.tail _ (List.Mem.head _))
  have cc2 := H.cell (w.heap.size) 2 (.int .i64 d) (List.Mem.tail _ (List.Mem.tail _ (List.Mem.head _)))
  have lc := H.lt (w.heap.size) 0 (.int .i64 y) (List.Mem.head _)
  go_wp2_with fail
  clear cc0 cc1 cc2 lc
  (with_reducible refine (number_is y 12 31 (F + Y - 1) 0 _ (H.lens (List.Mem.tail _ (List.Mem.tail _ (List.Mem.tail _ (List.Mem.tail _ (List.Mem.tail _ (List.Mem.tail _ (List.Mem.head _)))))))) H2.out).mono ?_)
  rintro e w7 ⟨rfl, hb⟩
  replace H := H.below hb
  clear hb
  have cc0 := H.cell (w.heap.size) 0 (.int .i64 y) (List.Mem.head _)
  have cc1 := H.cell (w.heap.size) 1 (.int .i64 m) (List.Mem.tail _ (List.Mem.head _))
  have cc2 := H.cell (w.heap.size) 2 (.int .i64 d) (List.Mem.tail _ (List.Mem.tail _ (List.Mem.head _)))
  have lc := H.lt (w.heap.size) 0 (.int .i64 y) (List.Mem.head _)
  have HL := Lib.hid (fun k => length_any y k _ (H.lens (List.Mem.tail _ (List.Mem.tail _ (List.Mem.tail _ (List.Mem.tail _ (List.Mem.tail _ (List.Mem.tail _ (List.Mem.head _)))))))))
  have HZ := H.old
  clear H
  go_wp2
  go_loop [12, 13] (fun n i => ∃ q : Int, 1 ≤ q ∧ q ≤ 13 ∧ i = .int .i64 q ∧ n = .int .i64 (am y q)) (fun _ i => (13 - intOf i).toNat)
  case atStart => exact ⟨1, by omega, by omega, rfl, by rw [am_one]⟩
  case round =>
    obtain ⟨q, q1, q2, rfl, rfl⟩ := hrel
    by_cases hq : q ≤ 12
    · have st := Lib.hid (am_step y q q1 hq)
      have k1 := am_bd y q
      have k2 := ln_le y q
      obtain ⟨A, HA⟩ : ∃ A, Hid (am y q = A) := ⟨_, Lib.hid rfl⟩
      rw [HA.out] at k1 st ⊢
      go_wp2_with fail
      (with_reducible refine (HL.out _).mono ?_)
      rintro e v1 ⟨rfl, rfl⟩
      obtain ⟨l, HC⟩ : ∃ l, Hid (ln y q = l) := ⟨_, Lib.hid rfl⟩
      rw [HC.out] at k2 st ⊢
      go_wp2
      go_round
      case rel => exact ⟨q + 1, by omega, by omega, rfl, by rw [st.out]⟩
      case measure => simp [intOf]; omega
    · have e : q = 13 := by omega
      subst e
      have e2 : am y 13 = Y := by rw [am_end, HY.out]
      rw [e2]
      clear e2
      go_wp2_with fail
      (with_reducible refine (leap_is y b _ HB.out).mono ?_)
      rintro e v1 ⟨rfl, hb⟩
      have HZ2 := HZ.trans (hb.mono HZ.size)
      clear hb HZ
      cases b
      · have e3 : Y = 365 := HYL.out
        subst e3
        go_wp2
        go_ret
        exact ⟨rfl, HZ2⟩
      · have e3 : Y = 366 := HYL.out
        subst e3
        go_wp2
        go_ret
        exact ⟨rfl, HZ2⟩

set_option maxHeartbeats 4000000 in
set_option maxRecDepth 100000 in
theorem ceras_2 (y m d N k F : Int) (b : Bool) (w : World) (hL : Lens w) (h1 : may y m d) (hN : nb y m d = N) (hF : ah y + 1 = F) (hk : wk N = k) (hb : lp y = b) (hy : 9599 < y) :
    Calls Tryd.prog 7 #[.agg #[.int .i64 y, .int .i64 m, .int .i64 d]] w fun e w' => e = .returned (.bool true) ∧ Below w.heap.size w w' := by
  have H := (Held.start w).add (f := lensF) hL
  clear hL
  have bd := nb_bd y m d h1
  rw [hN] at bd
  have HN : Hid (nN y m d = N ∧ nE y m d = 0) := Lib.hid (by rw [← hN]; exact n_yes h1)
  obtain ⟨y1, y2, m1, m2, d1, d2⟩ := h1
  have d31 : d ≤ 31 := by have := ln_le y m; omega
  have HM : Hid (nN (y + 400) m d = 0 ∧ nE (y + 400) m d = 3) := Lib.hid (n_no (fun h => by have := h.2.1; omega))
  have f1 : may y 1 1 := ⟨y1, y2, by omega, by omega, by omega, by have := ln_ge y 1 (by omega) (by omega); omega⟩
  have e12 : ln y 12 = 31 := by unfold ln l0; simp
  have f2 : may y 12 31 := ⟨y1, y2, by omega, by omega, by omega, by omega⟩
  have H1 : Hid (nN y 1 1 = F ∧ nE y 1 1 = 0) := Lib.hid (by
    have e : F = nb y 1 1 := by rw [← hF]; unfold nb; rw [am_one]; omega
    rw [e]; exact n_yes f1)
  have H2 : Hid (nN y 12 31 = F + yl y - 1 ∧ nE y 12 31 = 0) := Lib.hid (by
    have e : F + yl y - 1 = nb y 12 31 := by
      have s := am_step y 12 (by omega) (by omega)
      have s2 : am y (12 + 1) = yl y := am_end y
      rw [← hF]; unfold nb; omega
    rw [e]; exact n_yes f2)
  have F1 : 1 ≤ F ∧ F ≤ 4000000 := by have := ah_bd y y1 (by omega); omega
  have hyl : yl y = if b = true then 366 else 365 := by rw [← hb]; rfl
  have HYL := Lib.hid hyl
  have ylb := yl_bd y
  obtain ⟨Y, HY⟩ : ∃ Y, Hid (yl y = Y) := ⟨_, Lib.hid rfl⟩
  rw [HY.out] at H2 HYL ylb
  have HB := Lib.hid hb
  clear f1 f2 e12 hF hN hk hb hyl d2
  go_enter Tryd.func7, Tryd.ntmps7
  go_wp2_with fail
  replace H := (H.triple (w.heap.size) (.int .i64 y) (.int .i64 m) (.int .i64 d) 23 rfl)
  (with_reducible refine (cshown_any _ (H.lens (List.Mem.tail _ (List.Mem.tail _ (List.Mem.tail _ (List.Mem.tail _ (List.Mem.tail _ (List.Mem.tail _ (List.Mem.head _))))))))).mono ?_)
  rintro e w1 ⟨rfl, hb⟩
  replace H := H.below hb
  clear hb
  have cc0 := H.cell (w.heap.size) 0 (.int .i64 y) (List.Mem.head _)
  have cc1 := H.cell (w.heap.size) 1 (.int .i64 m) (List.Mem.tail _ (List.Mem.head _))
  have cc2 := H.cell (w.heap.size) 2 (.int .i64 d) (List.Mem.tail _ (List.Mem.tail _ (List.Mem.head _)))
  have lc := H.lt (w.heap.size) 0 (.int .i64 y) (List.Mem.head _)
  go_wp2_with fail
  clear cc0 cc1 cc2 lc
  (with_reducible refine (number_is y m d N 0 _ (H.lens (List.Mem.tail _ (List.Mem.tail _ (List.Mem.tail _ (List.Mem.tail _ (List.Mem.tail _ (List.Mem.tail _ (List.Mem.head _)))))))) HN.out).mono ?_)
  rintro e w2 ⟨rfl, hb⟩
  replace H := H.below hb
  clear hb
  have cc0 := H.cell (w.heap.size) 0 (.int .i64 y) (List.Mem.head _)
  have cc1 := H.cell (w.heap.size) 1 (.int .i64 m) (List.Mem.tail _ (List.Mem.head _))
  have cc2 := H.cell (w.heap.size) 2 (.int .i64 d) (List.Mem.tail _ (List.Mem.tail _ (List.Mem.head _)))
  have lc := H.lt (w.heap.size) 0 (.int .i64 y) (List.Mem.head _)
  go_wp2_with fail
  clear cc0 cc1 cc2 lc
  (with_reducible refine (number_is (y + 400) m d 0 3 _ (H.lens (List.Mem.tail _ (List.Mem.tail _ (List.Mem.tail _ (List.Mem.tail _ (List.Mem.tail _ (List.Mem.tail _ (List.Mem.head _)))))))) HM.out).mono ?_)
  rintro e w3 ⟨rfl, hb⟩
  replace H := H.below hb
  clear hb
  have cc0 := H.cell (w.heap.size) 0 (.int .i64 y) (List.Mem.head _)
  have cc1 := H.cell (w.heap.size) 1 (.int .i64 m) (List.Mem.tail _ (List.Mem.head _))
  have cc2 := H.cell (w.heap.size) 2 (.int .i64 d) (List.Mem.tail _ (List.Mem.tail _ (List.Mem.head _)))
  have lc := H.lt (w.heap.size) 0 (.int .i64 y) (List.Mem.head _)
  go_wp2_with fail
  clear cc0 cc1 cc2 lc
  (with_reducible refine (number_is y 1 1 F 0 _ (H.lens (List.Mem.tail _ (List.Mem.tail _ (List.Mem.tail _ (List.Mem.tail _ (List.Mem.tail _ (List.Mem.tail _ (List.Mem.head _)))))))) H1.out).mono ?_)
  rintro e w4 ⟨rfl, hb⟩
  replace H := H.below hb
  clear hb
  have cc0 := H.cell (w.heap.size) 0 (.int .i64 y) (List.Mem.head _)
  have cc1 := H.cell (w.heap.size) 1 (.int .i64 m) (List.Mem.tail _ (List.Mem.head _))
  have cc2 := H.cell (w.heap.size) 2 (.int .i64 d) (List.Mem.tail _ (List.Mem.tail _ (List.Mem.head _)))
  have lc := H.lt (w.heap.size) 0 (.int .i64 y) (List.Mem.head _)
  go_wp2_with fail
  clear cc0 cc1 cc2 lc
  (with_reducible refine (number_is y 12 31 (F + Y - 1) 0 _ (H.lens (List.Mem.tail _ (List.Mem.tail _ (List.Mem.tail _ (List.Mem.tail _ (List.Mem.tail _ (List.Mem.tail _ (List.Mem.head _)))))))) H2.out).mono ?_)
  rintro e w5 ⟨rfl, hb⟩
  replace H := H.below hb
  clear hb
  have cc0 := H.cell (w.heap.size) 0 (.int .i64 y) (List.Mem.head _)
  have cc1 := H.cell (w.heap.size) 1 (.int .i64 m) (List.Mem.tail _ (List.Mem.head _))
  have cc2 := H.cell (w.heap.size) 2 (.int .i64 d) (List.Mem.tail _ (List.Mem.tail _ (List.Mem.head _)))
  have lc := H.lt (w.heap.size) 0 (.int .i64 y) (List.Mem.head _)
  have HL := Lib.hid (fun k => length_any y k _ (H.lens (List.Mem.tail _ (List.Mem.tail _ (List.Mem.tail _ (List.Mem.tail _ (List.Mem.tail _ (List.Mem.tail _ (List.Mem.head _)))))))))
  have HZ := H.old
  clear H
  go_wp2
  go_loop [12, 13] (fun n i => ∃ q : Int, 1 ≤ q ∧ q ≤ 13 ∧ i = .int .i64 q ∧ n = .int .i64 (am y q)) (fun _ i => (13 - intOf i).toNat)
  case atStart => exact ⟨1, by omega, by omega, rfl, by rw [am_one]⟩
  case round =>
    obtain ⟨q, q1, q2, rfl, rfl⟩ := hrel
    by_cases hq : q ≤ 12
    · have st := Lib.hid (am_step y q q1 hq)
      have k1 := am_bd y q
      have k2 := ln_le y q
      obtain ⟨A, HA⟩ : ∃ A, Hid (am y q = A) := ⟨_, Lib.hid rfl⟩
      rw [HA.out] at k1 st ⊢
      go_wp2_with fail
      (with_reducible refine (HL.out _).mono ?_)
      rintro e v1 ⟨rfl, rfl⟩
      obtain ⟨l, HC⟩ : ∃ l, Hid (ln y q = l) := ⟨_, Lib.hid rfl⟩
      rw [HC.out] at k2 st ⊢
      go_wp2
      go_round
      case rel => exact ⟨q + 1, by omega, by omega, rfl, by rw [st.out]⟩
      case measure => simp [intOf]; omega
    · have e : q = 13 := by omega
      subst e
      have e2 : am y 13 = Y := by rw [am_end, HY.out]
      rw [e2]
      clear e2
      go_wp2_with fail
      (with_reducible refine (leap_is y b _ HB.out).mono ?_)
      rintro e v1 ⟨rfl, hb⟩
      have HZ2 := HZ.trans (hb.mono HZ.size)
      clear hb HZ
      cases b
      · have e3 : Y = 365 := HYL.out
        subst e3
        go_wp2
        go_ret
        exact ⟨rfl, HZ2⟩
      · have e3 : Y = 366 := HYL.out
        subst e3
        go_wp2
        go_ret
        exact ⟨rfl, HZ2⟩

theorem ceras_walk (y m d : Int) (w : World) (hL : Lens w) (hy : -9223372036854775808 ≤ y ∧ y < 9223372036854775808) (hm : -9223372036854775808 ≤ m ∧ m < 9223372036854775808) (hd : -9223372036854775808 ≤ d ∧ d < 9223372036854775808) :
    Calls Tryd.prog 7 #[.agg #[.int .i64 y, .int .i64 m, .int .i64 d]] w fun e w' => e = .returned (.bool true) ∧ Below w.heap.size w w' := by
  by_cases h1 : may y m d
  · by_cases h2 : y ≤ 9599
    · exact ceras_1 y m d _ _ _ _ w hL h1 rfl rfl rfl rfl h2
    · exact ceras_2 y m d _ _ _ _ w hL h1 rfl rfl rfl rfl (by omega)
  · exact ceras_0 y m d w hL h1
end Go.Proofs.YthnondaheppkiaaDoor
