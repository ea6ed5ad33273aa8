/- The reference of layer 11: Easter Sunday. -/
import Derived.Test.YtkbhicdcjfpbaaaDoorEaNum
import Derived.Test.YtkbhicdcjfpbaaaDoorCShown
namespace Go.Proofs.YtkbhicdcjfpbaaaDoor
open Go.RowKit
set_option linter.unusedVariables false
set_option linter.unusedSimpArgs false

theorem rrest_is (n r : Int) (w : World) (h : -1000000 ≤ n ∧ n ≤ 1000000) (hr : n % 30 = r) : Calls Tryd.prog 65 #[.int .i64 n, .int .i64 30] w fun e w' => e = .returned (.int .i64 r) ∧ w = w' := by
  have b := tmod_bd n 30 (by decide)
  have e : r = (n.tmod 30 + 30) % 30 := by
    have := Int.mul_tdiv_add_tmod n 30
    omega
  clear hr
  go_enter Tryd.func65, Tryd.ntmps65
  go_wp2
  go_ret
  exact ⟨by rw [e]; rfl, rfl⟩
theorem rea_out (y : Int) (w : World) (h : y < 1 ∨ 9999 < y) : Calls Tryd.prog 59 #[.int .i64 y] w fun e w' => e = .returned (.tuple #[.int .i64 0, .int .i64 3]) ∧ Below w.heap.size w w' := by
  rcases h with h | h
  · go_enter Tryd.func59, Tryd.ntmps59
    go_wp2
    go_ret2
    exact ⟨rfl, Below.refl _ _⟩
  · have h2 : ¬ y < 1 := by omega
    go_enter Tryd.func59, Tryd.ntmps59
    go_wp2
    go_ret2
    exact ⟨rfl, Below.refl _ _⟩
theorem sun_at (d z : Int) (h1 : d ≤ z) (h2 : z ≤ sun d) : (wk z = 6 → z = sun d) ∧ (z = sun d → wk z = 6) := by unfold sun wk at *; omega
set_option maxHeartbeats 4000000 in
theorem rea_a (y r M d S : Int) (w : World) (h1 : 1 ≤ y) (h2 : y ≤ 9999) (he : eaR y = r) (hr : r = 24) (hm : nN y 3 1 = M ∧ nE y 3 1 = 0) (mb : 1 ≤ M ∧ M ≤ 3652059) (hd : M + (49) = d) (hs : sun d = S) :
    Calls Tryd.prog 59 #[.int .i64 y] w fun e w' => e = .returned (.tuple #[.int .i64 S, .int .i64 0]) ∧ Below w.heap.size w w' := by
  have HE := Lib.hid he
  have HM := Lib.hid hm
  have HD := Lib.hid hd
  have HS := Lib.hid hs
  have sb := sun_bd d
  rw [hs] at sb
  have db : d = M + (49) := hd.symm
  clear he hm hd hs
  subst hr
  have C1 := Lib.hid (fun v => rrest_is (11 * (y % 19 + 1) + 20 + ((8 * (y / 100 + 1) + 5) / 25 - 5) - (3 * (y / 100 + 1) / 4 - 12)) _ v (by omega) HE.out)
  have DB := Lib.hid db
  clear db
  go_enter Tryd.func59, Tryd.ntmps59
  go_wp2_with fail
  (with_reducible refine (C1.out _).mono ?_)
  rintro e w1 ⟨rfl, rfl⟩
  go_wp2_with fail
  (with_reducible refine (rnumber_is y 3 1 M 0 _ HM.out).mono ?_)
  rintro e w1 ⟨rfl, hb⟩
  go_wp2
  go_loopw [12] (fun s W' => ∃ z : Int, s = .int .i64 z ∧ (d ≤ z ∧ z ≤ S) ∧ Below w.heap.size w W') (fun s _ => (S - intOf s).toNat)
  case atStart =>
    have := DB.out
    exact ⟨_, rfl, by omega, hb⟩
  case round =>
    obtain ⟨z, rfl, hz, hB⟩ := hrel
    have at1 := sun_at d z hz.1 (by rw [HS.out]; exact hz.2)
    rw [HS.out] at at1
    obtain ⟨k, HK⟩ : ∃ k, Hid (wk z = k) := ⟨_, Lib.hid rfl⟩
    rw [HK.out] at at1
    have zb : -4000000 ≤ z ∧ z ≤ 4000000 := by have := DB.out; omega
    by_cases hk : k = 6
    · have e := Lib.hid (at1.1 hk)
      have hk2 : (k != 6) = false := by simpa using hk
      clear at1 hk
      go_wp2_with fail
      (with_reducible refine (rweek_is z k _ HK.out).mono ?_)
      rintro e2 w2 ⟨rfl, hb2⟩
      go_wp2
      go_ret2
      exact ⟨by rw [← e.out]; rfl, hB.trans (hb2.mono hB.size)⟩
    · have e : z ≠ S := fun e => hk (at1.2 e)
      have hk2 : (k != 6) = true := by simpa using hk
      clear at1 hk
      go_wp2_with fail
      (with_reducible refine (rweek_is z k _ HK.out).mono ?_)
      rintro e2 w2 ⟨rfl, hb2⟩
      go_wp2
      go_roundw
      case rel => exact ⟨_, rfl, by omega, hB.trans (hb2.mono hB.size)⟩
      case measure => simp [intOf]; omega
set_option maxHeartbeats 4000000 in
theorem rea_b (y r M d S : Int) (w : World) (h1 : 1 ≤ y) (h2 : y ≤ 9999) (he : eaR y = r) (hr : r = 25) (hg : 11 < y % 19 + 1) (hm : nN y 3 1 = M ∧ nE y 3 1 = 0) (mb : 1 ≤ M ∧ M ≤ 3652059) (hd : M + (48) = d) (hs : sun d = S) :
    Calls Tryd.prog 59 #[.int .i64 y] w fun e w' => e = .returned (.tuple #[.int .i64 S, .int .i64 0]) ∧ Below w.heap.size w w' := by
  have HE := Lib.hid he
  have HM := Lib.hid hm
  have HD := Lib.hid hd
  have HS := Lib.hid hs
  have sb := sun_bd d
  rw [hs] at sb
  have db : d = M + (48) := hd.symm
  clear he hm hd hs
  subst hr
  have C1 := Lib.hid (fun v => rrest_is (11 * (y % 19 + 1) + 20 + ((8 * (y / 100 + 1) + 5) / 25 - 5) - (3 * (y / 100 + 1) / 4 - 12)) _ v (by omega) HE.out)
  have DB := Lib.hid db
  clear db
  go_enter Tryd.func59, Tryd.ntmps59
  go_wp2_with fail
  (with_reducible refine (C1.out _).mono ?_)
  rintro e w1 ⟨rfl, rfl⟩
  go_wp2_with fail
  (with_reducible refine (rnumber_is y 3 1 M 0 _ HM.out).mono ?_)
  rintro e w1 ⟨rfl, hb⟩
  go_wp2
  go_loopw [12] (fun s W' => ∃ z : Int, s = .int .i64 z ∧ (d ≤ z ∧ z ≤ S) ∧ Below w.heap.size w W') (fun s _ => (S - intOf s).toNat)
  case atStart =>
    have := DB.out
    exact ⟨_, rfl, by omega, hb⟩
  case round =>
    obtain ⟨z, rfl, hz, hB⟩ := hrel
    have at1 := sun_at d z hz.1 (by rw [HS.out]; exact hz.2)
    rw [HS.out] at at1
    obtain ⟨k, HK⟩ : ∃ k, Hid (wk z = k) := ⟨_, Lib.hid rfl⟩
    rw [HK.out] at at1
    have zb : -4000000 ≤ z ∧ z ≤ 4000000 := by have := DB.out; omega
    by_cases hk : k = 6
    · have e := Lib.hid (at1.1 hk)
      have hk2 : (k != 6) = false := by simpa using hk
      clear at1 hk
      go_wp2_with fail
      (with_reducible refine (rweek_is z k _ HK.out).mono ?_)
      rintro e2 w2 ⟨rfl, hb2⟩
      go_wp2
      go_ret2
      exact ⟨by rw [← e.out]; rfl, hB.trans (hb2.mono hB.size)⟩
    · have e : z ≠ S := fun e => hk (at1.2 e)
      have hk2 : (k != 6) = true := by simpa using hk
      clear at1 hk
      go_wp2_with fail
      (with_reducible refine (rweek_is z k _ HK.out).mono ?_)
      rintro e2 w2 ⟨rfl, hb2⟩
      go_wp2
      go_roundw
      case rel => exact ⟨_, rfl, by omega, hB.trans (hb2.mono hB.size)⟩
      case measure => simp [intOf]; omega
set_option maxHeartbeats 4000000 in
theorem rea_c (y r M d S : Int) (w : World) (h1 : 1 ≤ y) (h2 : y ≤ 9999) (he : eaR y = r) (hr : r = 25) (hg : ¬ 11 < y % 19 + 1) (hm : nN y 3 1 = M ∧ nE y 3 1 = 0) (mb : 1 ≤ M ∧ M ≤ 3652059) (hd : M + (49) = d) (hs : sun d = S) :
    Calls Tryd.prog 59 #[.int .i64 y] w fun e w' => e = .returned (.tuple #[.int .i64 S, .int .i64 0]) ∧ Below w.heap.size w w' := by
  have HE := Lib.hid he
  have HM := Lib.hid hm
  have HD := Lib.hid hd
  have HS := Lib.hid hs
  have sb := sun_bd d
  rw [hs] at sb
  have db : d = M + (49) := hd.symm
  clear he hm hd hs
  subst hr
  have C1 := Lib.hid (fun v => rrest_is (11 * (y % 19 + 1) + 20 + ((8 * (y / 100 + 1) + 5) / 25 - 5) - (3 * (y / 100 + 1) / 4 - 12)) _ v (by omega) HE.out)
  have DB := Lib.hid db
  clear db
  go_enter Tryd.func59, Tryd.ntmps59
  go_wp2_with fail
  (with_reducible refine (C1.out _).mono ?_)
  rintro e w1 ⟨rfl, rfl⟩
  go_wp2_with fail
  (with_reducible refine (rnumber_is y 3 1 M 0 _ HM.out).mono ?_)
  rintro e w1 ⟨rfl, hb⟩
  go_wp2
  go_loopw [12] (fun s W' => ∃ z : Int, s = .int .i64 z ∧ (d ≤ z ∧ z ≤ S) ∧ Below w.heap.size w W') (fun s _ => (S - intOf s).toNat)
  case atStart =>
    have := DB.out
    exact ⟨_, rfl, by omega, hb⟩
  case round =>
    obtain ⟨z, rfl, hz, hB⟩ := hrel
    have at1 := sun_at d z hz.1 (by rw [HS.out]; exact hz.2)
    rw [HS.out] at at1
    obtain ⟨k, HK⟩ : ∃ k, Hid (wk z = k) := ⟨_, Lib.hid rfl⟩
    rw [HK.out] at at1
    have zb : -4000000 ≤ z ∧ z ≤ 4000000 := by have := DB.out; omega
    by_cases hk : k = 6
    · have e := Lib.hid (at1.1 hk)
      have hk2 : (k != 6) = false := by simpa using hk
      clear at1 hk
      go_wp2_with fail
      (with_reducible refine (rweek_is z k _ HK.out).mono ?_)
      rintro e2 w2 ⟨rfl, hb2⟩
      go_wp2
      go_ret2
      exact ⟨by rw [← e.out]; rfl, hB.trans (hb2.mono hB.size)⟩
    · have e : z ≠ S := fun e => hk (at1.2 e)
      have hk2 : (k != 6) = true := by simpa using hk
      clear at1 hk
      go_wp2_with fail
      (with_reducible refine (rweek_is z k _ HK.out).mono ?_)
      rintro e2 w2 ⟨rfl, hb2⟩
      go_wp2
      go_roundw
      case rel => exact ⟨_, rfl, by omega, hB.trans (hb2.mono hB.size)⟩
      case measure => simp [intOf]; omega
set_option maxHeartbeats 4000000 in
theorem rea_d (y r M d S : Int) (w : World) (h1 : 1 ≤ y) (h2 : y ≤ 9999) (he : eaR y = r) (hr : 25 < r ∧ r < 30) (hm : nN y 3 1 = M ∧ nE y 3 1 = 0) (mb : 1 ≤ M ∧ M ≤ 3652059) (hd : M + (74 - r) = d) (hs : sun d = S) :
    Calls Tryd.prog 59 #[.int .i64 y] w fun e w' => e = .returned (.tuple #[.int .i64 S, .int .i64 0]) ∧ Below w.heap.size w w' := by
  have HE := Lib.hid he
  have HM := Lib.hid hm
  have HD := Lib.hid hd
  have HS := Lib.hid hs
  have sb := sun_bd d
  rw [hs] at sb
  have db : d = M + (74 - r) := hd.symm
  clear he hm hd hs
  have n24 : (r == 24) = false := by simp; omega
  have n25 : (r == 25) = false := by simp; omega
  have C1 := Lib.hid (fun v => rrest_is (11 * (y % 19 + 1) + 20 + ((8 * (y / 100 + 1) + 5) / 25 - 5) - (3 * (y / 100 + 1) / 4 - 12)) _ v (by omega) HE.out)
  have DB := Lib.hid db
  clear db
  go_enter Tryd.func59, Tryd.ntmps59
  go_wp2_with fail
  (with_reducible refine (C1.out _).mono ?_)
  rintro e w1 ⟨rfl, rfl⟩
  go_wp2_with fail
  (with_reducible refine (rnumber_is y 3 1 M 0 _ HM.out).mono ?_)
  rintro e w1 ⟨rfl, hb⟩
  go_wp2
  go_loopw [12] (fun s W' => ∃ z : Int, s = .int .i64 z ∧ (d ≤ z ∧ z ≤ S) ∧ Below w.heap.size w W') (fun s _ => (S - intOf s).toNat)
  case atStart =>
    have := DB.out
    exact ⟨_, rfl, by omega, hb⟩
  case round =>
    obtain ⟨z, rfl, hz, hB⟩ := hrel
    have at1 := sun_at d z hz.1 (by rw [HS.out]; exact hz.2)
    rw [HS.out] at at1
    obtain ⟨k, HK⟩ : ∃ k, Hid (wk z = k) := ⟨_, Lib.hid rfl⟩
    rw [HK.out] at at1
    have zb : -4000000 ≤ z ∧ z ≤ 4000000 := by have := DB.out; omega
    by_cases hk : k = 6
    · have e := Lib.hid (at1.1 hk)
      have hk2 : (k != 6) = false := by simpa using hk
      clear at1 hk
      go_wp2_with fail
      (with_reducible refine (rweek_is z k _ HK.out).mono ?_)
      rintro e2 w2 ⟨rfl, hb2⟩
      go_wp2
      go_ret2
      exact ⟨by rw [← e.out]; rfl, hB.trans (hb2.mono hB.size)⟩
    · have e : z ≠ S := fun e => hk (at1.2 e)
      have hk2 : (k != 6) = true := by simpa using hk
      clear at1 hk
      go_wp2_with fail
      (with_reducible refine (rweek_is z k _ HK.out).mono ?_)
      rintro e2 w2 ⟨rfl, hb2⟩
      go_wp2
      go_roundw
      case rel => exact ⟨_, rfl, by omega, hB.trans (hb2.mono hB.size)⟩
      case measure => simp [intOf]; omega
set_option maxHeartbeats 4000000 in
theorem rea_e (y r M d S : Int) (w : World) (h1 : 1 ≤ y) (h2 : y ≤ 9999) (he : eaR y = r) (hr : 0 ≤ r ∧ r < 24) (hm : nN y 3 1 = M ∧ nE y 3 1 = 0) (mb : 1 ≤ M ∧ M ≤ 3652059) (hd : M + (44 - r) = d) (hs : sun d = S) :
    Calls Tryd.prog 59 #[.int .i64 y] w fun e w' => e = .returned (.tuple #[.int .i64 S, .int .i64 0]) ∧ Below w.heap.size w w' := by
  have HE := Lib.hid he
  have HM := Lib.hid hm
  have HD := Lib.hid hd
  have HS := Lib.hid hs
  have sb := sun_bd d
  rw [hs] at sb
  have db : d = M + (44 - r) := hd.symm
  clear he hm hd hs
  have n24 : (r == 24) = false := by simp; omega
  have n25 : (r == 25) = false := by simp; omega
  have C1 := Lib.hid (fun v => rrest_is (11 * (y % 19 + 1) + 20 + ((8 * (y / 100 + 1) + 5) / 25 - 5) - (3 * (y / 100 + 1) / 4 - 12)) _ v (by omega) HE.out)
  have DB := Lib.hid db
  clear db
  go_enter Tryd.func59, Tryd.ntmps59
  go_wp2_with fail
  (with_reducible refine (C1.out _).mono ?_)
  rintro e w1 ⟨rfl, rfl⟩
  go_wp2_with fail
  (with_reducible refine (rnumber_is y 3 1 M 0 _ HM.out).mono ?_)
  rintro e w1 ⟨rfl, hb⟩
  go_wp2
  go_loopw [12] (fun s W' => ∃ z : Int, s = .int .i64 z ∧ (d ≤ z ∧ z ≤ S) ∧ Below w.heap.size w W') (fun s _ => (S - intOf s).toNat)
  case atStart =>
    have := DB.out
    exact ⟨_, rfl, by omega, hb⟩
  case round =>
    obtain ⟨z, rfl, hz, hB⟩ := hrel
    have at1 := sun_at d z hz.1 (by rw [HS.out]; exact hz.2)
    rw [HS.out] at at1
    obtain ⟨k, HK⟩ : ∃ k, Hid (wk z = k) := ⟨_, Lib.hid rfl⟩
    rw [HK.out] at at1
    have zb : -4000000 ≤ z ∧ z ≤ 4000000 := by have := DB.out; omega
    by_cases hk : k = 6
    · have e := Lib.hid (at1.1 hk)
      have hk2 : (k != 6) = false := by simpa using hk
      clear at1 hk
      go_wp2_with fail
      (with_reducible refine (rweek_is z k _ HK.out).mono ?_)
      rintro e2 w2 ⟨rfl, hb2⟩
      go_wp2
      go_ret2
      exact ⟨by rw [← e.out]; rfl, hB.trans (hb2.mono hB.size)⟩
    · have e : z ≠ S := fun e => hk (at1.2 e)
      have hk2 : (k != 6) = true := by simpa using hk
      clear at1 hk
      go_wp2_with fail
      (with_reducible refine (rweek_is z k _ HK.out).mono ?_)
      rintro e2 w2 ⟨rfl, hb2⟩
      go_wp2
      go_roundw
      case rel => exact ⟨_, rfl, by omega, hB.trans (hb2.mono hB.size)⟩
      case measure => simp [intOf]; omega
theorem rea_any (y n c : Int) (w : World) (h : EaIs y n c) : Calls Tryd.prog 59 #[.int .i64 y] w fun e w' => e = .returned (.tuple #[.int .i64 n, .int .i64 c]) ∧ Below w.heap.size w w' := by
  rcases h with ⟨h1, h2, rfl, rfl⟩ | ⟨h, rfl, rfl⟩
  · have mm := may_march y 1 h1 h2 (by decide) (by decide)
    have hm := n_yes mm
    have mb := nb_bd _ _ _ mm
    have rb : 0 ≤ eaR y ∧ eaR y < 30 := by unfold eaR; omega
    have key : ∀ N, eaN y = N → sun (nb y 3 1 + N) = east y := fun N h => by rw [← h]; rfl
    by_cases c1 : eaR y = 24
    · exact rea_a y _ _ _ _ w h1 h2 rfl c1 hm mb rfl (key _ (by unfold eaN eaE; rw [c1]; simp))
    · by_cases c2 : eaR y = 25
      · by_cases c3 : 11 < y % 19 + 1
        · exact rea_b y _ _ _ _ w h1 h2 rfl c2 c3 hm mb rfl (key _ (by unfold eaN eaE; rw [c2]; simp [c3]))
        · exact rea_c y _ _ _ _ w h1 h2 rfl c2 c3 hm mb rfl (key _ (by unfold eaN eaE; rw [c2]; simp [c3]))
      · have q : eaE y = eaR y := by unfold eaE; rw [if_neg (by omega)]
        by_cases c4 : eaR y < 24
        · exact rea_e y _ _ _ _ w h1 h2 rfl ⟨rb.1, c4⟩ hm mb rfl (key _ (by unfold eaN; rw [q, if_neg (by omega)]))
        · exact rea_d y _ _ _ _ w h1 h2 rfl ⟨by omega, rb.2⟩ hm mb rfl (key _ (by unfold eaN; rw [q, if_pos (by omega)]))
  · exact rea_out y w h
end Go.Proofs.YtkbhicdcjfpbaaaDoor
