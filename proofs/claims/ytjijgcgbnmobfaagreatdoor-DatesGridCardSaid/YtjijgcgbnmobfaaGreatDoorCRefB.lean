/- The reference of layer 4: numbers of days, days of numbers. -/
import Derived.Test.YtjijgcgbnmobfaaGreatDoorCRef
namespace Go.Proofs.YtjijgcgbnmobfaaGreatDoor
open Go.RowKit
set_option linter.unusedVariables false
set_option linter.unusedSimpArgs false

set_option maxHeartbeats 1000000 in
theorem rnumber_any (y m d : Int) (w : World) : Calls Tryz.prog 33 #[.agg #[.int .i64 y, .int .i64 m, .int .i64 d]] w fun e w' =>
    e = .returned (.tuple #[.int .i64 (nN y m d), .int .i64 (nE y m d)]) ∧ Below w.heap.size w w' := by
  have H := Held.start w
  by_cases hm : may y m d
  · obtain ⟨e1, e2⟩ := n_yes hm
    rw [e1, e2]
    have hb := (mb_iff y m d).2 hm
    have bd := nb_bd y m d hm
    have C1 := Lib.hid (fun v => rmay_any y m d v)
    rw [hb] at C1
    obtain ⟨m1, m2, m3, m4, m5, m6⟩ := hm
    have C2 := Lib.hid (fun v => rahead_any y v m1 (by omega))
    have C3 := Lib.hid (fun k v => rlength_any y k v)
    have u1 := ah_bd y m1 (by omega)
    have hn : nb y m d = ah y + am y m + d := rfl
    have HN := Lib.hid hn
    have d31 : d ≤ 31 := by have := ln_le y m; omega
    obtain ⟨a, HA⟩ : ∃ a, Hid (ah y = a) := ⟨_, Lib.hid rfl⟩
    rw [HA.out] at u1 C2 HN
    clear hn m6 bd
    go_enter Tryz.func33, Tryz.ntmps33
    replace H := H.triple w.heap.size (.int .i64 y) (.int .i64 m) (.int .i64 d) 40 rfl
    go_wp2_with fail
    (with_reducible refine (C1.out _).mono ?_)
    rintro e w1 ⟨rfl, hb1⟩
    replace H := H.below hb1
    clear hb1
    have HK := H.old
    have c0 := H.cell w.heap.size 0 (.int .i64 y) (List.Mem.head _)
    have c1 := H.cell w.heap.size 1 (.int .i64 m) (List.Mem.tail _ (List.Mem.head _))
    have c2 := H.cell w.heap.size 2 (.int .i64 d) (List.Mem.tail _ (List.Mem.tail _ (List.Mem.head _)))
    clear H
    go_wp2
    go_quiet ((go_at_call 34; with_reducible exact quietLeft (C2.out _)))
    go_wp2
    go_loop [5, 6] (fun n i => ∃ b : Int, 1 ≤ b ∧ b ≤ m ∧ i = .int .i64 b ∧ n = .int .i64 (a + d + am y b)) (fun _ i => (m - intOf i).toNat)
    case atStart => exact ⟨1, by omega, m3, rfl, by rw [am_one]; simp⟩
    case round =>
      obtain ⟨b, b1, b2, rfl, rfl⟩ := hrel
      by_cases hb : b < m
      · have st := Lib.hid (am_step y b b1 (by omega))
        have k1 := am_bd y b
        have k2 := ln_le y b
        obtain ⟨A, HB⟩ : ∃ A, Hid (am y b = A) := ⟨_, Lib.hid rfl⟩
        rw [HB.out] at k1 st ⊢
        go_wp2_with fail
        (with_reducible refine (C3.out _ _).mono ?_)
        rintro e w1 ⟨rfl, rfl⟩
        obtain ⟨l, HC⟩ : ∃ l, Hid (ln y b = l) := ⟨_, Lib.hid rfl⟩
        rw [HC.out] at k2 st ⊢
        go_wp2
        go_round
        case rel => exact ⟨b + 1, by omega, by omega, rfl, by rw [st.out]; simp only [Value.int.injEq, true_and]; omega⟩
        case measure => simp [intOf]; omega
      · have e : b = m := by omega
        subst e
        have e2 : a + d + am y b = nb y b d := by rw [HN.out]; omega
        rw [e2]
        go_wp2
        go_ret2
        exact ⟨rfl, belowDrewN HK _⟩
  · obtain ⟨e1, e2⟩ := n_no hm
    rw [e1, e2]
    have hb := (mb_not y m d).2 hm
    have C1 := Lib.hid (fun v => rmay_any y m d v)
    rw [hb] at C1
    clear hb hm
    go_enter Tryz.func33, Tryz.ntmps33
    replace H := H.triple w.heap.size (.int .i64 y) (.int .i64 m) (.int .i64 d) 40 rfl
    go_wp2_with fail
    (with_reducible refine (C1.out _).mono ?_)
    rintro e w1 ⟨rfl, hb1⟩
    replace H := H.below hb1
    clear hb1
    have HK := H.old
    clear H
    go_wp2
    go_ret2
    exact ⟨rfl, HK⟩

set_option maxHeartbeats 2000000 in
theorem rof_any (n y m d e : Int) (w : World) (hd : DayIs n y m d e) : Calls Tryz.prog 18 #[.int .i64 n] w fun e' w' =>
    e' = .returned (.tuple #[.agg #[.int .i64 y, .int .i64 m, .int .i64 d], .int .i64 e]) ∧ Below w.heap.size w w' := by
  have D : ∀ (w : World) (a b c : Value), Below w.heap.size w (w.alloc (.cells #[a, b, c] 40)) := fun w _ _ _ => (Below.refl _ _).alloc (Nat.le_refl _) _
  rcases hd with ⟨hm, hn, rfl⟩ | ⟨ho, rfl, rfl, rfl, rfl⟩
  · have iy := in_year y m d hm
    have bd := nb_bd y m d hm
    rw [hn] at bd
    obtain ⟨m1, m2, m3, m4, m5, m6⟩ := hm
    have hn2 : ah y + am y m + d = n := hn
    have C1 := Lib.hid (fun k v h1 h2 => rahead_any k v h1 h2)
    have C2 := Lib.hid (fun k v => rlength_any y k v)
    have st := ah_step y
    have FA := Lib.hid (show ah y < n ∧ n ≤ ah (y + 1) ∧ d = n - ah y - am y m ∧ d ≤ ln y m by omega)
    clear iy hn hn2 m6 st
    have u1 := ah_bd y m1 (by omega)
    go_enter Tryz.func18, Tryz.ntmps18
    go_wp2
    go_loop [4, 5] (fun i j => ∃ lo hi : Int, 1 ≤ lo ∧ lo < hi ∧ hi ≤ 10000 ∧ i = .int .i64 lo ∧ j = .int .i64 hi ∧ ah lo < n ∧ n ≤ ah hi) (fun i j => (intOf j - intOf i).toNat)
    case atStart => exact ⟨1, 10000, by omega, by omega, by omega, rfl, rfl, by rw [ah_one]; omega, by rw [ah_end]; omega⟩
    case round =>
      obtain ⟨lo, hi, l1, l2, l3, rfl, rfl, g1, g2⟩ := hrel
      by_cases hg : 1 < hi - lo
      · obtain ⟨k, HA⟩ : ∃ k, Hid ((lo + hi) / 2 = k) := ⟨_, Lib.hid rfl⟩
        have k1 : lo < k ∧ k < hi := by rw [← HA.out]; omega
        have G := Lib.hid (show ah lo < n ∧ n ≤ ah hi from ⟨g1, g2⟩)
        clear g1 g2
        go_wp2_with fail
        rw [HA.out]
        (with_reducible refine (C1.out _ _ (by omega) (by omega)).mono ?_)
        rintro e w1 ⟨rfl, rfl⟩
        obtain ⟨A, HB⟩ : ∃ A, Hid (ah k = A) := ⟨_, Lib.hid rfl⟩
        rw [HB.out]
        by_cases hA : A < n
        · go_wp2
          go_round
          case rel => exact ⟨k, hi, by omega, by omega, l3, rfl, rfl, by rw [HB.out]; exact hA, G.out.2⟩
          case measure => simp [intOf]; omega
        · go_wp2
          go_round
          case rel => exact ⟨lo, k, l1, by omega, by omega, rfl, rfl, G.out.1, by rw [HB.out]; omega⟩
          case measure => simp [intOf]; omega
      · have e : hi = lo + 1 := by omega
        subst e
        have e : lo = y := by
          obtain ⟨f1, f2, -, -⟩ := FA.out
          by_cases a : lo < y
          · have := ah_le (lo + 1) y (by omega); omega
          · by_cases b : y < lo
            · have := ah_le (y + 1) lo (by omega); omega
            · omega
        subst e
        clear g1 g2 l1 l2 l3
        obtain ⟨-, f2, f3, f4⟩ := FA.out
        have FB := Lib.hid (show d = n - ah lo - am lo m ∧ d ≤ ln lo m from ⟨f3, f4⟩)
        clear f2 f3 f4
        go_wp2_with fail
        (with_reducible refine (C1.out _ _ (by omega) (by omega)).mono ?_)
        rintro e w1 ⟨rfl, rfl⟩
        obtain ⟨A, HB⟩ : ∃ A, Hid (ah lo = A) := ⟨_, Lib.hid rfl⟩
        rw [HB.out] at FB u1 ⊢
        go_wp2
        go_loop [7, 8] (fun l i => ∃ b : Int, 1 ≤ b ∧ b ≤ m ∧ i = .int .i64 b ∧ l = .int .i64 (n - A - am lo b)) (fun _ i => (m - intOf i).toNat)
        case atStart => exact ⟨1, by omega, m3, rfl, by rw [am_one]; simp⟩
        case round =>
          obtain ⟨b, b1, b2, rfl, rfl⟩ := hrel
          have k1 := am_bd lo b
          have k2 := ln_le lo b
          obtain ⟨L, HC⟩ : ∃ L, Hid (n - A - am lo b = L) := ⟨_, Lib.hid rfl⟩
          obtain ⟨l, HD⟩ : ∃ l, Hid (ln lo b = l) := ⟨_, Lib.hid rfl⟩
          have k5 : -5000000 ≤ L ∧ L ≤ 5000000 := by rw [← HC.out]; omega
          rw [HC.out]
          by_cases hb : b < m
          · have st := Lib.hid (am_step lo b b1 (by omega))
            have k4 : l < L := by
              rw [← HD.out, ← HC.out]
              have := am_lt lo b m b1 hb (by omega)
              have := FB.out.1
              omega
            rw [HD.out] at k2
            clear k1
            go_wp2_with fail
            (with_reducible refine (C2.out _ _).mono ?_)
            rintro e w1 ⟨rfl, rfl⟩
            rw [HD.out]
            go_wp2_with fail
            (with_reducible refine (C2.out _ _).mono ?_)
            rintro e w1 ⟨rfl, rfl⟩
            rw [HD.out]
            go_wp2
            go_round
            case rel => exact ⟨b + 1, by omega, by omega, rfl, by rw [st.out, ← HC.out, ← HD.out]; simp only [Value.int.injEq, true_and]; omega⟩
            case measure => simp [intOf]; omega
          · have e : b = m := by omega
            subst e
            have k4 : L = d := by rw [← HC.out]; exact FB.out.1.symm
            subst k4
            have k6 : L ≤ l := by rw [← HD.out]; exact FB.out.2
            rw [HD.out] at k2
            clear k1
            go_wp2_with fail
            (with_reducible refine (C2.out _ _).mono ?_)
            rintro e w1 ⟨rfl, rfl⟩
            rw [HD.out]
            go_wp2
            exact bodyPost_ret (v := .tuple #[.agg #[.int .i64 lo, .int .i64 b, .int .i64 L], .int .i64 0]) (by simp [results, Tryz.results18, go_sem]) rfl ⟨rfl, D _ _ _ _⟩
  · by_cases h : n < 1
    · go_enter Tryz.func18, Tryz.ntmps18
      go_wp2
      exact bodyPost_ret (v := .tuple #[.agg #[.int .i64 0, .int .i64 0, .int .i64 0], .int .i64 3]) (by simp [results, Tryz.results18, go_sem]) rfl ⟨rfl, D _ _ _ _⟩
    · have h2 : 3652059 < n := by omega
      go_enter Tryz.func18, Tryz.ntmps18
      go_wp2
      exact bodyPost_ret (v := .tuple #[.agg #[.int .i64 0, .int .i64 0, .int .i64 0], .int .i64 3]) (by simp [results, Tryz.results18, go_sem]) rfl ⟨rfl, D _ _ _ _⟩
end Go.Proofs.YtjijgcgbnmobfaaGreatDoor
