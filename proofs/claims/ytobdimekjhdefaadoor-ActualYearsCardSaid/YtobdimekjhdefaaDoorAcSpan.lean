/- Package actual: how many of the days between two days are in leap years, and how many in others. -/
import Derived.Test.YtobdimekjhdefaaDoorAcBy
import Derived.Test.YtobdimekjhdefaaDoorQuad
import Derived.Test.YtobdimekjhdefaaDoorCivilB
namespace Go.Proofs.YtobdimekjhdefaaDoor
open Go.RowKit
set_option linter.unusedVariables false
set_option linter.unusedSimpArgs false

/-- How far the count has come behind so many years: the days up to it, and those in leap years. -/
def CvAt (y1 m1 d1 y2 m2 d2 g V c : Int) : Prop :=
  (g = 0 ∧ V = lv y1 m1 d1 ∧ c = nb y1 m1 d1) ∨ (0 < g ∧ y1 + g ≤ y2 ∧ V = 366 * ly (y1 + g) ∧ c = ah (y1 + g) + 1) ∨ (g = y2 + 1 - y1 ∧ V = lv y2 m2 d2 ∧ c = nb y2 m2 d2)
theorem cv_step (y1 m1 d1 y2 m2 d2 g V c : Int) (h1 : may y1 m1 d1) (h2 : may y2 m2 d2) (hy : y1 + g ≤ y2) (hc : CvAt y1 m1 d1 y2 m2 d2 g V c) :
    ∃ V' c', CvAt y1 m1 d1 y2 m2 d2 (g + 1) V' c' ∧ max (nb y1 m1 d1) (ah (y1 + g) + 1) = c ∧ min (nb y2 m2 d2) (ah (y1 + g) + 1 + yl (y1 + g)) = c' ∧ (lp (y1 + g) = true → V' = V + (c' - c)) ∧ (lp (y1 + g) = false → V' = V) := by
  have i1 := in_year _ _ _ h1
  have i2 := in_year _ _ _ h2
  have s := ah_step (y1 + g)
  have sl := ly_step (y1 + g)
  have e1 : y1 + g + 1 = y1 + (g + 1) := by omega
  rw [e1] at s sl
  have n1 : nb y1 m1 d1 = ah y1 + am y1 m1 + d1 := rfl
  have n2 : nb y2 m2 d2 = ah y2 + am y2 m2 + d2 := rfl
  have k2 : y1 + g < y2 → ah (y1 + g) + yl (y1 + g) ≤ ah y2 := ah_lt _ _
  have k1 : y1 < y1 + g → ah y1 + yl y1 ≤ ah (y1 + g) := ah_lt _ _
  rcases hc with ⟨rfl, rfl, rfl⟩ | ⟨g0, g1, rfl, rfl⟩ | ⟨rfl, _, _⟩
  · rw [Int.add_zero] at *
    by_cases he : y1 = y2
    · subst he
      refine ⟨lv y1 m2 d2, nb y1 m2 d2, Or.inr (Or.inr ⟨by omega, rfl, rfl⟩), by omega, by omega, fun p => ?_, fun p => ?_⟩
      · unfold lv; rw [if_pos p, if_pos p]; omega
      · unfold lv; simp [p]
    · refine ⟨366 * ly (y1 + (0 + 1)), ah (y1 + (0 + 1)) + 1, Or.inr (Or.inl ⟨by omega, by omega, rfl, rfl⟩), by omega, by omega, fun p => ?_, fun p => ?_⟩
      · rw [if_pos p] at sl; unfold lv; rw [if_pos p]; unfold yl at s; rw [if_pos p] at s; omega
      · rw [if_neg (by simp [p])] at sl; unfold lv; rw [if_neg (by simp [p])]; omega
  · by_cases he : y1 + g = y2
    · refine ⟨lv y2 m2 d2, nb y2 m2 d2, Or.inr (Or.inr ⟨by omega, rfl, rfl⟩), by omega, by rw [he] at *; omega, fun p => ?_, fun p => ?_⟩
      · rw [he] at *; unfold lv; rw [if_pos p]; omega
      · rw [he] at *; unfold lv; simp [p]
    · refine ⟨366 * ly (y1 + (g + 1)), ah (y1 + (g + 1)) + 1, Or.inr (Or.inl ⟨by omega, by omega, rfl, rfl⟩), by omega, by omega, fun p => ?_, fun p => ?_⟩
      · rw [if_pos p] at sl; unfold yl at s; rw [if_pos p] at s; omega
      · rw [if_neg (by simp [p])] at sl; omega
  · omega
theorem cv_bd (y1 m1 d1 y2 m2 d2 g V c : Int) (h1 : may y1 m1 d1) (h2 : may y2 m2 d2) (hl : nb y1 m1 d1 ≤ nb y2 m2 d2) (g0 : 0 ≤ g) (hy : y1 + g ≤ y2 + 1) (hc : CvAt y1 m1 d1 y2 m2 d2 g V c) :
    (0 ≤ V - lv y1 m1 d1 ∧ V - lv y1 m1 d1 ≤ 3700000) ∧ (0 ≤ c - nb y1 m1 d1 ∧ c - nb y1 m1 d1 ≤ 3700000) := by
  have b1 := lv_bd _ _ _ h1
  have b2 := lv_bd _ _ _ h2
  have n1 := nb_bd _ _ _ h1
  have n2 := nb_bd _ _ _ h2
  have l := lv_le _ _ _ _ _ _ h1 h2 hl
  have i1 := in_year _ _ _ h1
  have y1b := h1.1
  have y2b := h2.2.1
  rcases hc with ⟨rfl, rfl, rfl⟩ | ⟨g0, g1, rfl, rfl⟩ | ⟨rfl, rfl, rfl⟩
  · omega
  · have a := ah_bd (y1 + g) (by omega) (by omega)
    have b := ly_bd (y1 + g) (by omega) (by omega)
    have k := ah_lt y1 (y1 + g) (by omega)
    have k2 := ly_le (y1 + 1) (y1 + g) (by omega)
    have s := ly_step y1
    have u := ly_bd y1 (by omega) (by omega)
    have n : nb y1 m1 d1 = ah y1 + am y1 m1 + d1 := rfl
    refine ⟨?_, by omega⟩
    unfold lv
    unfold yl at i1
    by_cases p : lp y1 = true
    · rw [if_pos p] at *; omega
    · rw [if_neg p] at *; omega
  · omega
theorem ylen_any (y : Int) (w : World) : Calls Tryd.prog 42 #[.int .i64 y] w fun e w' => e = .returned (.int .i64 (yl y)) ∧ w = w' := by
  have CL := Lib.hid (fun v => leap_any y v)
  unfold yl
  generalize lp y = p at *
  go_enter Tryd.func42, Tryd.ntmps42
  go_wp2_with fail
  (with_reducible refine (CL.out _).mono ?_)
  rintro e w1 ⟨rfl, rfl⟩
  cases p
  · go_wp2
    go_ret
    exact ⟨rfl, rfl⟩
  · go_wp2
    go_ret
    exact ⟨rfl, rfl⟩

set_option maxHeartbeats 4000000 in
set_option maxRecDepth 100000 in
theorem byYears_any (a b y1 m1 d1 y2 m2 d2 x r : Int) (w : World) (hL : Lens w) (h1 : may y1 m1 d1) (ha : nb y1 m1 d1 = a) (h2 : may y2 m2 d2) (hb : nb y2 m2 d2 = b) (hab : a ≤ b) (hx : inX y1 m1 d1 y2 m2 d2 = x) (hr : b - a - x = r) :
    Calls Tryd.prog 26 #[.agg #[.int .i64 a, .int .i64 b, .int .i64 y1, .int .i64 y2]] w fun e w' => e = .returned (.tuple #[.int .i64 x, .int .i64 r]) ∧ Below w.heap.size w w' := by
  have H := (Held.start w).add (f := lensF) hL
  clear hL
  have yy : y1 ≤ y2 := by
    by_cases k : y2 < y1
    · have := nb_lt _ _ _ _ _ _ h2 h1 (Or.inl k); omega
    · omega
  have yb1 := h1.1
  have yb2 := h2.2.1
  have F1 : Hid (nN y1 1 1 = ah y1 + 1 ∧ nE y1 1 1 = 0) := Lib.hid (by
    have k : may y1 1 1 := ⟨h1.1, h1.2.1, by omega, by omega, by omega, by have := ln_ge y1 1 (by omega) (by omega); omega⟩
    have z := n_yes k
    have e : nb y1 1 1 = ah y1 + 1 := by unfold nb; rw [am_one]; omega
    rw [e] at z; exact z)
  have NB := Lib.hid (fun v h => by have k := number_any y1 1 1 v h; rwa [F1.out.1, F1.out.2] at k)
  have ST := Lib.hid (fun g V c hy hc => cv_step y1 m1 d1 y2 m2 d2 g V c h1 h2 hy hc)
  have BD := Lib.hid (fun g V c g0 hy hc => cv_bd y1 m1 d1 y2 m2 d2 g V c h1 h2 (by omega) g0 hy hc)
  have FIN : Hid (∀ V c, CvAt y1 m1 d1 y2 m2 d2 (y2 - y1 + 1) V c → V - lv y1 m1 d1 = x ∧ c - a - (V - lv y1 m1 d1) = r) := Lib.hid (by
    rintro V c (⟨e, _, _⟩ | ⟨_, e, _, _⟩ | ⟨_, rfl, rfl⟩)
    · omega
    · omega
    · unfold inX at hx; omega)
  have AB := Lib.hid (fun g (g0 : 0 ≤ g) (hy : y1 + g ≤ y2) => And.intro (ah_bd (y1 + g) (by omega) (by omega)) (yl_bd (y1 + g)))
  have A0 : Hid (CvAt y1 m1 d1 y2 m2 d2 0 (lv y1 m1 d1) a) := Lib.hid (Or.inl ⟨rfl, rfl, ha.symm⟩)
  have CN := Lib.hid (fun g => ah_step (y1 + g))
  have aB := nb_bd _ _ _ h1
  have bB := nb_bd _ _ _ h2
  rw [ha] at aB
  rw [hb] at bB
  rw [ha] at BD
  rw [ha, hb] at ST
  clear h1 h2 ha hb hx hr F1
  generalize lv y1 m1 d1 = L at *
  obtain ⟨A1, HA1⟩ : ∃ A1, Hid (ah y1 = A1) := ⟨_, Lib.hid rfl⟩
  have ab1 := (AB.out 0 (by omega) (by omega)).1
  rw [Int.add_zero, HA1.out] at ab1
  rw [HA1.out] at NB
  go_enter Tryd.func26, Tryd.ntmps26
  go_wp2_with fail
  replace H := (H.quad (w.heap.size) (.int .i64 a) (.int .i64 b) (.int .i64 y1) (.int .i64 y2) 47 rfl)
  (with_reducible refine (NB.out _ (H.lens (List.Mem.tail _ (List.Mem.tail _ (List.Mem.tail _ (List.Mem.tail _ (List.Mem.tail _ (List.Mem.tail _ (List.Mem.tail _ (List.Mem.tail _ (List.Mem.head _))))))))))).mono ?_)
  rintro e w1 ⟨rfl, hb⟩
  replace H := H.below hb
  clear hb
  have cs0 := H.cell (w.heap.size) 0 (.int .i64 a) (List.Mem.head _)
  have cs1 := H.cell (w.heap.size) 1 (.int .i64 b) (List.Mem.tail _ (List.Mem.head _))
  have cs2 := H.cell (w.heap.size) 2 (.int .i64 y1) (List.Mem.tail _ (List.Mem.tail _ (List.Mem.head _)))
  have cs3 := H.cell (w.heap.size) 3 (.int .i64 y2) (List.Mem.tail _ (List.Mem.tail _ (List.Mem.tail _ (List.Mem.head _))))
  have ls := H.lt (w.heap.size) 0 (.int .i64 a) (List.Mem.head _)
  have HK := H.old
  clear H
  go_wp2
  go_loop [2, 3, 4, 23] (fun il io bg k => ∃ g V c : Int, 0 ≤ g ∧ y1 + g ≤ y2 + 1 ∧ CvAt y1 m1 d1 y2 m2 d2 g V c ∧ il = .int .i64 (V - L) ∧ io = .int .i64 (c - a - (V - L)) ∧ bg = .int .i64 (ah (y1 + g) + 1) ∧ k = .int .i64 g) (fun _ _ _ k => (y2 + 1 - y1 - intOf k).toNat)
  case atStart => exact ⟨0, L, a, by omega, by omega, A0.out, by simp, by simp, by simp [HA1.out], rfl⟩
  case round =>
    obtain ⟨g, V, c, g0, g1, hc, rfl, rfl, rfl, rfl⟩ := hrel
    have HC := Lib.hid hc
    have bd := BD.out g V c g0 g1 hc
    clear hc
    by_cases hk : g < y2 - y1 + 1
    · obtain ⟨V', c', hc', e1, e2, e3, e4⟩ := ST.out g V c (by omega) HC.out
      have bd' := BD.out (g + 1) V' c' (by omega) (by omega) hc'
      have HC' := Lib.hid hc'
      have ab := AB.out g g0 (by omega)
      obtain ⟨y, hy⟩ : ∃ y, y = y1 + g := ⟨_, rfl⟩
      have HY := Lib.hid hy
      rw [← hy] at e1 e2 e3 e4 ab
      rw [← hy]
      have CN' := CN.out g
      rw [← hy] at CN'
      have CN2 := Lib.hid CN'
      have E1 := Lib.hid e1
      have E2 := Lib.hid e2
      have E3 := Lib.hid e3
      have E4 := Lib.hid e4
      obtain ⟨A, HA⟩ : ∃ A, Hid (ah y = A) := ⟨_, Lib.hid rfl⟩
      obtain ⟨Y, HYL⟩ : ∃ Y, Hid (yl y = Y) := ⟨_, Lib.hid rfl⟩
      have CL := Lib.hid (fun v => ylen_any y v)
      have CP := Lib.hid (fun v => leap_any y v)
      rw [HYL.out] at CL
      rw [HA.out, HYL.out] at ab
      rw [HA.out]
      have m1' := E1.out
      have m2' := E2.out
      rw [HA.out] at m1' m2'
      rw [HYL.out] at m2'
      have sY : IntKind.i64.wrap (y1 + g) = y := by rw [IntWalk.i64_in _ (by omega)]; exact hy.symm
      have yb : 1 ≤ y ∧ y ≤ 9999 := by omega
      clear e1 e2 e3 e4 hc' CN' hy
      go_wp2_with fail
      (with_reducible refine (CL.out _).mono ?_)
      rintro e w8 ⟨rfl, rfl⟩
      obtain ⟨p, HP⟩ : ∃ p, Hid (lp y = p) := ⟨_, Lib.hid rfl⟩
      rw [HP.out] at CP
      go_wp2_with fail
      (with_reducible refine (CP.out _).mono ?_)
      rintro e w9 ⟨rfl, rfl⟩
      have HB : Hid (A + 1 + Y = ah (y1 + (g + 1)) + 1) := Lib.hid (by
        have h := CN2.out
        rw [HA.out, HYL.out] at h
        have e : y1 + (g + 1) = y + 1 := by have := HY.out; omega
        rw [e, h]; omega)
      cases p
      · have ev := Lib.hid (E4.out HP.out)
        go_wp2
        go_round
        case rel => exact ⟨g + 1, V', c', by omega, by omega, HC'.out, congrArg (Value.int .i64) (by have := ev.out; omega), congrArg (Value.int .i64) (by have := ev.out; omega), congrArg (Value.int .i64) HB.out, rfl⟩
        case measure => simp [intOf]; omega
      · have ev := Lib.hid (E3.out HP.out)
        go_wp2
        go_round
        case rel => exact ⟨g + 1, V', c', by omega, by omega, HC'.out, congrArg (Value.int .i64) (by have := ev.out; omega), congrArg (Value.int .i64) (by have := ev.out; omega), congrArg (Value.int .i64) HB.out, rfl⟩
        case measure => simp [intOf]; omega
    · have e : g = y2 - y1 + 1 := by omega
      have FE := Lib.hid (FIN.out V c (e ▸ HC.out))
      clear e
      go_wp2
      go_ret2
      exact ⟨ret2 FE.out.1 FE.out.2, HK⟩
end Go.Proofs.YtobdimekjhdefaaDoor
