/- Several texts in one: CRefB, CShown. -/
import Derived.Test.YtpfgdfpaoldhcaaGreatDoorSrAC
set_option maxHeartbeats 8000000
set_option maxRecDepth 100000
set_option linter.unusedVariables false
set_option linter.unusedSimpArgs false
namespace Go.Proofs.YtpfgdfpaoldhcaaGreatDoor
open Go.RowKit
theorem zLt (y m d : Int) (w : World) : Calls Tryz.prog 51 #[.agg #[y, m, d]] w fun e w' =>
  e = .returned (.tuple #[(nN y m d), (nE y m d)]) ∧ Below w w w' := by
 have H := Held.start w
 by_cases hm : may y m d
 ·obtain ⟨e1, e2⟩ := zEa hm
  rw [e1, e2]
  have hb := (zFp y m d).2 hm
  have bd := zAd y m d hm
  have C1 := zh (fun v => zNe y m d v)
  rw [hb] at C1
  obtain ⟨m1, m2, m3, m4, m5, m6⟩ := hm
  have C2 := zh (fun v => zHt y v m1 zo)
  have C3 := zh (fun k v => zBu y k v)
  have u1 := zHz y m1 zo
  have hn : nb y m d = ah y + am y m + d := rfl
  have HN := zh hn
  have d31 : d ≤ 31 := by have := zAh y m; omega
  obtain ⟨a, HA⟩ : ∃ a, Hid (ah y = a) := ⟨_, zh rfl⟩
  rw [HA.out] at u1 C2 HN
  clear hn m6 bd
  go_enter Tryz.func51, Tryz.ntmps51
  replace H := H.triple w.heap.size y m d 86 rfl
  go_wp2_with fail
  with_reducible refine (C1.out _).mono ?_
  rintro e w1 ⟨rfl, hb1⟩
  replace H := H.below hb1
  clear hb1
  have HK := H.old
  obtain ⟨c0, c1, c2⟩ := H.cells3 w.heap.size
  clear H
  go_wp2
  go_quiet ((go_at_call 74; with_reducible exact zAt (C2.out _)))
  go_wp2
  go_loop [5, 6] (fun n i => ∃ b : Int, 1 ≤ b ∧ b ≤ m ∧ i = .int .i64 b ∧ n = .int .i64 (a + d + am y b)) (fun _ i => (m - intOf i).toNat)
  case atStart => exact ⟨1, zo, m3, rfl, by rw [zFl]; simp⟩
  case round =>
   obtain ⟨b, b1, b2, rfl, rfl⟩ := hrel
   by_cases hb : b < m
   ·have st := zh (zE4 y b b1 zo)
    have k1 := zJ1 y b
    have k2 := zAh y b
    obtain ⟨A, HB⟩ : ∃ A, Hid (am y b = A) := ⟨_, zh rfl⟩
    rw [HB.out] at k1 st ⊢
    go_wp2_with fail
    with_reducible refine (C3.out _ _).mono ?_
    rintro e w1 ⟨rfl, rfl⟩
    obtain ⟨l, HC⟩ : ∃ l, Hid (ln y b = l) := ⟨_, zh rfl⟩
    rw [HC.out] at k2 st ⊢
    go_wp2
    go_round
    case rel => exact ⟨b + 1, zo, zo, rfl, by rw [st.out]; simp only [Value.int.injEq, true_and]; omega⟩
    case measure => simp [intOf]; omega
   ·have e : b = m := zo
    subst e
    have e2 : a + d + am y b = nb y b d := by rw [HN.out]; omega
    rw [e2]
    go_wp2
    go_ret2
    exact ⟨rfl, zA7 HK _⟩
 ·obtain ⟨e1, e2⟩ := n_no hm
  rw [e1, e2]
  have hb := (zN4 y m d).2 hm
  have C1 := zh (fun v => zNe y m d v)
  rw [hb] at C1
  clear hb hm
  go_enter Tryz.func51, Tryz.ntmps51
  replace H := H.triple w.heap.size y m d 86 rfl
  go_wp2_with fail
  with_reducible refine (C1.out _).mono ?_
  exact zqt4r
theorem zqcrk {P : Prop} (h : P := by
 go_enter Tryz.func60, Tryz.ntmps60
 go_wp2
 exact bodyPost_ret (v := .tuple #[.agg #[(0:Int), (0:Int), (0:Int)], (3:Int)]) (by simp [results, Tryz.results60, go_sem]) rfl ⟨rfl, D _ _ _ _⟩) : P := h
theorem zA5 (n y m d e : Int) (w : World) (hd : zAf n y m d e) : Calls Tryz.prog 60 #[n] w fun e' w' =>
  e' = .returned (.tuple #[.agg #[y, m, d], e]) ∧ Below w w w' := by
 have D : ∀ (w : World) (a b c : Value), Below w w (w.alloc (.cells #[a, b, c] 86)) := fun w _ _ _ => (Below.refl _ _).alloc (Nat.le_refl _) _
 rcases hd with ⟨hm, hn, rfl⟩ | ⟨ho, rfl, rfl, rfl, rfl⟩
 ·have iy := zBq y m d hm
  have bd := zAd y m d hm
  rw [hn] at bd
  obtain ⟨m1, m2, m3, m4, m5, m6⟩ := hm
  have hn2 : ah y + am y m + d = n := hn
  have C1 := zh (fun k v h1 h2 => zHt k v h1 h2)
  have C2 := zh (fun k v => zBu y k v)
  have st := zD6 y
  have FA := zh (show ah y < n ∧ n ≤ ah (y + 1) ∧ d = n - ah y - am y m ∧ d ≤ ln y m by omega)
  clear iy hn hn2 m6 st
  have u1 := zHz y m1 zo
  go_enter Tryz.func60, Tryz.ntmps60
  go_wp2
  go_loop [4, 5] (fun i j => ∃ lo hi : Int, 1 ≤ lo ∧ lo < hi ∧ hi ≤ 10000 ∧ i = .int .i64 lo ∧ j = .int .i64 hi ∧ ah lo < n ∧ n ≤ ah hi) (fun i j => (intOf j - intOf i).toNat)
  case atStart => exact ⟨1, 10000, zo, zo, zo, rfl, rfl, by rw [zPt]; omega, by rw [zMg]; omega⟩
  case round =>
   obtain ⟨lo, hi, l1, l2, l3, rfl, rfl, g1, g2⟩ := hrel
   by_cases hg : 1 < hi - lo
   ·obtain ⟨k, HA⟩ : ∃ k, Hid ((lo + hi) / 2 = k) := ⟨_, zh rfl⟩
    have k1 : lo < k ∧ k < hi := by rw [← HA.out]; omega
    have G := zh (show ah lo < n ∧ n ≤ ah hi from ⟨g1, g2⟩)
    clear g1 g2
    go_wp2_with fail
    rw [HA.out]
    with_reducible refine (C1.out _ _ zo zo).mono ?_
    rintro e w1 ⟨rfl, rfl⟩
    obtain ⟨A, HB⟩ : ∃ A, Hid (ah k = A) := ⟨_, zh rfl⟩
    rw [HB.out]
    by_cases hA : A < n
    ·go_wp2
     go_round
     case rel => exact ⟨k, hi, zo, zo, l3, rfl, rfl, by rw [HB.out]; exact hA, G.out.2⟩
     case measure => simp [intOf]; omega
    ·go_wp2
     go_round
     case rel => exact ⟨lo, k, l1, zo, zo, rfl, rfl, G.out.1, by rw [HB.out]; omega⟩
     case measure => simp [intOf]; omega
   ·have e : hi = lo + 1 := zo
    subst e
    have e : lo = y := by
     obtain ⟨f1, f2, -, -⟩ := FA.out
     by_cases a : lo < y
     ·have := zKn (lo + 1) y zo; omega
     ·by_cases b : y < lo
      ·have := zKn (y + 1) lo zo; omega
      ·omega
    subst e
    clear g1 g2 l1 l2 l3
    obtain ⟨-, f2, f3, f4⟩ := FA.out
    have FB := zh (show d = n - ah lo - am lo m ∧ d ≤ ln lo m from ⟨f3, f4⟩)
    clear f2 f3 f4
    go_wp2_with fail
    with_reducible refine (C1.out _ _ zo zo).mono ?_
    rintro e w1 ⟨rfl, rfl⟩
    obtain ⟨A, HB⟩ : ∃ A, Hid (ah lo = A) := ⟨_, zh rfl⟩
    rw [HB.out] at FB u1 ⊢
    go_wp2
    go_loop [7, 8] (fun l i => ∃ b : Int, 1 ≤ b ∧ b ≤ m ∧ i = .int .i64 b ∧ l = .int .i64 (n - A - am lo b)) (fun _ i => (m - intOf i).toNat)
    case atStart => exact ⟨1, zo, m3, rfl, by rw [zFl]; simp⟩
    case round =>
     obtain ⟨b, b1, b2, rfl, rfl⟩ := hrel
     have k1 := zJ1 lo b
     have k2 := zAh lo b
     obtain ⟨L, HC⟩ : ∃ L, Hid (n - A - am lo b = L) := ⟨_, zh rfl⟩
     obtain ⟨l, HD⟩ : ∃ l, Hid (ln lo b = l) := ⟨_, zh rfl⟩
     have k5 : -5000000 ≤ L ∧ L ≤ 5000000 := by rw [← HC.out]; omega
     rw [HC.out]
     by_cases hb : b < m
     ·have st := zh (zE4 lo b b1 zo)
      have k4 : l < L := by
       rw [← HD.out, ← HC.out]
       have := am_lt lo b m b1 hb zo
       have := FB.out.1
       omega
      rw [HD.out] at k2
      clear k1
      go_wp2_with fail
      with_reducible refine (C2.out _ _).mono ?_
      rintro e w1 ⟨rfl, rfl⟩
      rw [HD.out]
      go_wp2_with fail
      with_reducible refine (C2.out _ _).mono ?_
      rintro e w1 ⟨rfl, rfl⟩
      rw [HD.out]
      go_wp2
      go_round
      case rel => exact ⟨b + 1, zo, zo, rfl, by rw [st.out, ← HC.out, ← HD.out]; simp only [Value.int.injEq, true_and]; omega⟩
      case measure => simp [intOf]; omega
     ·have e : b = m := zo
      subst e
      have k4 : L = d := by rw [← HC.out]; exact FB.out.1.symm
      subst k4
      have k6 : L ≤ l := by rw [← HD.out]; exact FB.out.2
      rw [HD.out] at k2
      clear k1
      go_wp2_with fail
      with_reducible refine (C2.out _ _).mono ?_
      rintro e w1 ⟨rfl, rfl⟩
      rw [HD.out]
      go_wp2
      exact bodyPost_ret (v := .tuple #[.agg #[lo, b, .int .i64 L], (0:Int)]) (by simp [results, Tryz.results60, go_sem]) rfl ⟨rfl, D _ _ _ _⟩
 ·by_cases h : n < 1
  ·exact zqcrk
  ·have h2 : 3652059 < n := zo
   exact zqcrk
theorem zRi (y m l : Int) (w : World) (hL : Lens w) (h : ln y m = l) : Calls Tryz.prog 167 #[y, m] w fun e w' => e = .returned l ∧ Below w w w' := by
 subst h; exact Calls.same (zBt y m w hL)
theorem zCc (y m d n c : Int) (w : World) (hL : Lens w) (h : nN y m d = n ∧ nE y m d = c) : Calls Tryz.prog 145 #[.agg #[y, m, d]] w fun e w' => e = .returned (.tuple #[n, c]) ∧ Below w w w' := by
 obtain ⟨rfl, rfl⟩ := h; exact zHq y m d w hL
theorem zB9 (y m d n c : Int) (w : World) (h : nN y m d = n ∧ nE y m d = c) : Calls Tryz.prog 51 #[.agg #[y, m, d]] w fun e w' => e = .returned (.tuple #[n, c]) ∧ Below w w w' := by
 obtain ⟨rfl, rfl⟩ := h; exact zLt y m d w
end Go.Proofs.YtpfgdfpaoldhcaaGreatDoor
