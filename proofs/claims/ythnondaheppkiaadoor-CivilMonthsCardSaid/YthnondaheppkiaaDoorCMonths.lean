/- CivilMonths: the walk. -/
import Derived.Test.YthnondaheppkiaaDoorCShown
namespace Go.Proofs.YthnondaheppkiaaDoor
open Go.RowKit
set_option linter.unusedVariables false
set_option linter.unusedSimpArgs false

theorem first_may (P Q : Int) (p1 : 1 ≤ P) (p2 : P ≤ 9999) (q1 : 1 ≤ Q) (q2 : Q ≤ 12) (k : Int) (k1 : 1 ≤ k) (k2 : k ≤ ln P Q) : may P Q k := ⟨p1, p2, q1, q2, k1, k2⟩

set_option maxHeartbeats 4000000 in
set_option maxRecDepth 100000 in
theorem cmonths_a (y m d P Q A l K : Int) (w : World) (hL : Lens w) (y0 : 0 ≤ y) (y1 : y < 65536) (m0 : 0 ≤ m) (m1 : m < 256) (d0 : 0 ≤ d) (d1 : d < 256)
    (hP : 1 + y % 9999 = P) (hQ : 1 + m % 12 = Q) (hA : nb P Q 1 = A) (hl : ln P Q = l) (hK : 1 + d % l = K) (hq : Q ≠ 12) :
    Calls Tryd.prog 9 #[.int .u16 y, .int .u8 m, .int .u8 d] w fun e w' => e = .returned (.bool true) ∧ Below w.heap.size w w' := by
  have H := (Held.start w).add (f := lensF) hL
  clear hL
  have p1 : 1 ≤ (P : Int) := by omega
  have p2 : (P : Int) ≤ 9999 := by omega
  have q1 : 1 ≤ (Q : Int) := by omega
  have q2 : (Q : Int) ≤ 12 := by omega
  have l1 : 28 ≤ l := by rw [← hl]; exact ln_ge _ _ q1 q2
  have l2 : l ≤ 31 := by rw [← hl]; exact (ln_le _ _).2
  have d9 : 0 ≤ d % l ∧ d % l < l := ⟨Int.emod_nonneg _ (by omega), Int.emod_lt_of_pos _ (by omega)⟩
  have kk : 1 ≤ K ∧ K ≤ l := by rw [← hK]; omega
  have f1 := first_may P Q p1 p2 q1 q2 1 (by omega) (by omega)
  have f2 := first_may P Q p1 p2 q1 q2 K kk.1 (by omega)
  have f3 := first_may P Q p1 p2 q1 q2 l (by omega) (by omega)
  have A1 := nb_bd _ _ _ f1
  rw [hA] at A1
  have C1 : Hid (nN P Q 1 = A ∧ nE P Q 1 = 0) := Lib.hid (by rw [← hA]; exact n_yes f1)
  have C2 : Hid (nN P Q K = A + K - 1 ∧ nE P Q K = 0) := Lib.hid (by rw [show A + K - 1 = nb P Q K by rw [← hA]; unfold nb; omega]; exact n_yes f2)
  have C3 : Hid (nN P Q l = A + l - 1 ∧ nE P Q l = 0) := Lib.hid (by rw [show A + l - 1 = nb P Q l by rw [← hA]; unfold nb; omega]; exact n_yes f3)
  have C4 : Hid (mb P Q (l + 1) = false) := Lib.hid ((mb_not _ _ _).2 (fun h => by have := h.2.2.2.2.2; omega))
  have CL := Lib.hid hl
  have CX : Hid (nN (P) (Q + 1) 1 = A + l ∧ nE (P) (Q + 1) 1 = 0) := Lib.hid (by
    have f4 : may P (Q + 1) 1 := ⟨p1, p2, by omega, by omega, by omega, by have := ln_ge P (Q + 1) (by omega) (by omega); omega⟩
    have e : A + l = nb P (Q + 1) 1 := by rw [← hA, ← hl]; unfold nb; rw [am_step P Q q1 q2]; omega
    rw [e]; exact n_yes f4)
  have HP := Lib.hid hP
  have HQ := Lib.hid hQ
  have HK := Lib.hid hK
  have y9 : 0 ≤ y % 9999 ∧ y % 9999 < 9999 := by omega
  have m9 : 0 ≤ m % 12 ∧ m % 12 < 12 := by omega
  clear f1 f2 f3 hA hl hP hQ hK
  go_enter Tryd.func9, Tryd.ntmps9
  go_wp2_with fail
  (with_reducible refine (cshown_any _ (H.lens (List.Mem.head _))).mono ?_)
  rintro e w1 ⟨rfl, hb⟩
  replace H := H.below hb
  clear hb
  go_wp2_with fail
  rw [HP.out, HQ.out]
  (with_reducible refine (length_is P Q l _ (H.lens (List.Mem.head _)) CL.out).mono ?_)
  rintro e w2 ⟨rfl, hb⟩
  replace H := H.below hb
  clear hb
  go_wp2_with fail
  rw [HK.out]
  (with_reducible refine (number_is P Q 1 A 0 _ (H.lens (List.Mem.head _)) C1.out).mono ?_)
  rintro e w3 ⟨rfl, hb⟩
  replace H := H.below hb
  clear hb
  go_wp2_with fail
  (with_reducible refine (number_is P Q K (A + K - 1) 0 _ (H.lens (List.Mem.head _)) C2.out).mono ?_)
  rintro e w4 ⟨rfl, hb⟩
  replace H := H.below hb
  clear hb
  go_wp2_with fail
  (with_reducible refine (number_is P Q l (A + l - 1) 0 _ (H.lens (List.Mem.head _)) C3.out).mono ?_)
  rintro e w5 ⟨rfl, hb⟩
  replace H := H.below hb
  clear hb
  go_wp2_with fail
  (with_reducible refine (may_is P Q (l + 1) false _ (H.lens (List.Mem.head _)) C4.out).mono ?_)
  rintro e w6 ⟨rfl, hb⟩
  replace H := H.below hb
  clear hb
  go_wp2_with fail
  replace H := (H.triple (w6.heap.size) (.int .i64 P) (.int .i64 (Q + 1)) (.int .i64 1) 23 rfl)
  (with_reducible refine (number_is (P) (Q + 1) 1 (A + l) 0 _ (H.lens (List.Mem.tail _ (List.Mem.tail _ (List.Mem.tail _ (List.Mem.tail _ (List.Mem.tail _ (List.Mem.tail _ (List.Mem.head _)))))))) CX.out).mono ?_)
  rintro e w7 ⟨rfl, hb⟩
  replace H := H.below hb
  clear hb
  go_wp2
  all_goals
    go_ret
    exact ⟨rfl, H.old⟩

set_option maxHeartbeats 4000000 in
set_option maxRecDepth 100000 in
theorem cmonths_b (y m d P A l K : Int) (w : World) (hL : Lens w) (y0 : 0 ≤ y) (y1 : y < 65536) (m0 : 0 ≤ m) (m1 : m < 256) (d0 : 0 ≤ d) (d1 : d < 256)
    (hP : 1 + y % 9999 = P) (hQ : 1 + m % 12 = 12) (hA : nb P 12 1 = A) (hl : ln P 12 = l) (hK : 1 + d % l = K) (hp : P ≠ 9999) :
    Calls Tryd.prog 9 #[.int .u16 y, .int .u8 m, .int .u8 d] w fun e w' => e = .returned (.bool true) ∧ Below w.heap.size w w' := by
  have H := (Held.start w).add (f := lensF) hL
  clear hL
  have p1 : 1 ≤ (P : Int) := by omega
  have p2 : (P : Int) ≤ 9999 := by omega
  have q1 : 1 ≤ (12 : Int) := by omega
  have q2 : (12 : Int) ≤ 12 := by omega
  have l1 : 28 ≤ l := by rw [← hl]; exact ln_ge _ _ q1 q2
  have l2 : l ≤ 31 := by rw [← hl]; exact (ln_le _ _).2
  have d9 : 0 ≤ d % l ∧ d % l < l := ⟨Int.emod_nonneg _ (by omega), Int.emod_lt_of_pos _ (by omega)⟩
  have kk : 1 ≤ K ∧ K ≤ l := by rw [← hK]; omega
  have f1 := first_may P 12 p1 p2 q1 q2 1 (by omega) (by omega)
  have f2 := first_may P 12 p1 p2 q1 q2 K kk.1 (by omega)
  have f3 := first_may P 12 p1 p2 q1 q2 l (by omega) (by omega)
  have A1 := nb_bd _ _ _ f1
  rw [hA] at A1
  have C1 : Hid (nN P 12 1 = A ∧ nE P 12 1 = 0) := Lib.hid (by rw [← hA]; exact n_yes f1)
  have C2 : Hid (nN P 12 K = A + K - 1 ∧ nE P 12 K = 0) := Lib.hid (by rw [show A + K - 1 = nb P 12 K by rw [← hA]; unfold nb; omega]; exact n_yes f2)
  have C3 : Hid (nN P 12 l = A + l - 1 ∧ nE P 12 l = 0) := Lib.hid (by rw [show A + l - 1 = nb P 12 l by rw [← hA]; unfold nb; omega]; exact n_yes f3)
  have C4 : Hid (mb P 12 (l + 1) = false) := Lib.hid ((mb_not _ _ _).2 (fun h => by have := h.2.2.2.2.2; omega))
  have CL := Lib.hid hl
  have CX : Hid (nN (P + 1) (1) 1 = A + l ∧ nE (P + 1) (1) 1 = 0) := Lib.hid (by
    have f4 : may (P + 1) 1 1 := ⟨by omega, by omega, by omega, by omega, by omega, by have := ln_ge (P + 1) 1 (by omega) (by omega); omega⟩
    have e : A + l = nb (P + 1) 1 1 := by
      rw [← hA, ← hl]; unfold nb
      have s1 := am_step P 12 (by omega) (by omega)
      have s2 : am P (12 + 1) = yl P := am_end P
      have s3 := ah_step P
      rw [am_one]; omega
    rw [e]; exact n_yes f4)
  have HP := Lib.hid hP
  have HQ := Lib.hid hQ
  have HK := Lib.hid hK
  have y9 : 0 ≤ y % 9999 ∧ y % 9999 < 9999 := by omega
  have m9 : 0 ≤ m % 12 ∧ m % 12 < 12 := by omega
  clear f1 f2 f3 hA hl hP hQ hK
  go_enter Tryd.func9, Tryd.ntmps9
  go_wp2_with fail
  (with_reducible refine (cshown_any _ (H.lens (List.Mem.head _))).mono ?_)
  rintro e w1 ⟨rfl, hb⟩
  replace H := H.below hb
  clear hb
  go_wp2_with fail
  rw [HP.out, HQ.out]
  (with_reducible refine (length_is P 12 l _ (H.lens (List.Mem.head _)) CL.out).mono ?_)
  rintro e w2 ⟨rfl, hb⟩
  replace H := H.below hb
  clear hb
  go_wp2_with fail
  rw [HK.out]
  (with_reducible refine (number_is P 12 1 A 0 _ (H.lens (List.Mem.head _)) C1.out).mono ?_)
  rintro e w3 ⟨rfl, hb⟩
  replace H := H.below hb
  clear hb
  go_wp2_with fail
  (with_reducible refine (number_is P 12 K (A + K - 1) 0 _ (H.lens (List.Mem.head _)) C2.out).mono ?_)
  rintro e w4 ⟨rfl, hb⟩
  replace H := H.below hb
  clear hb
  go_wp2_with fail
  (with_reducible refine (number_is P 12 l (A + l - 1) 0 _ (H.lens (List.Mem.head _)) C3.out).mono ?_)
  rintro e w5 ⟨rfl, hb⟩
  replace H := H.below hb
  clear hb
  go_wp2_with fail
  (with_reducible refine (may_is P 12 (l + 1) false _ (H.lens (List.Mem.head _)) C4.out).mono ?_)
  rintro e w6 ⟨rfl, hb⟩
  replace H := H.below hb
  clear hb
  go_wp2_with fail
  replace H := (H.triple (w6.heap.size) (.int .i64 (P + 1)) (.int .i64 1) (.int .i64 1) 23 rfl)
  (with_reducible refine (number_is (P + 1) (1) 1 (A + l) 0 _ (H.lens (List.Mem.tail _ (List.Mem.tail _ (List.Mem.tail _ (List.Mem.tail _ (List.Mem.tail _ (List.Mem.tail _ (List.Mem.head _)))))))) CX.out).mono ?_)
  rintro e w7 ⟨rfl, hb⟩
  replace H := H.below hb
  clear hb
  go_wp2
  all_goals
    go_ret
    exact ⟨rfl, H.old⟩

set_option maxHeartbeats 4000000 in
set_option maxRecDepth 100000 in
theorem cmonths_c (y m d  A l K : Int) (w : World) (hL : Lens w) (y0 : 0 ≤ y) (y1 : y < 65536) (m0 : 0 ≤ m) (m1 : m < 256) (d0 : 0 ≤ d) (d1 : d < 256)
    (hP : 1 + y % 9999 = 9999) (hQ : 1 + m % 12 = 12) (hA : nb 9999 12 1 = A) (hl : ln 9999 12 = l) (hK : 1 + d % l = K)  :
    Calls Tryd.prog 9 #[.int .u16 y, .int .u8 m, .int .u8 d] w fun e w' => e = .returned (.bool true) ∧ Below w.heap.size w w' := by
  have H := (Held.start w).add (f := lensF) hL
  clear hL
  have p1 : 1 ≤ (9999 : Int) := by omega
  have p2 : (9999 : Int) ≤ 9999 := by omega
  have q1 : 1 ≤ (12 : Int) := by omega
  have q2 : (12 : Int) ≤ 12 := by omega
  have l1 : 28 ≤ l := by rw [← hl]; exact ln_ge _ _ q1 q2
  have l2 : l ≤ 31 := by rw [← hl]; exact (ln_le _ _).2
  have d9 : 0 ≤ d % l ∧ d % l < l := ⟨Int.emod_nonneg _ (by omega), Int.emod_lt_of_pos _ (by omega)⟩
  have kk : 1 ≤ K ∧ K ≤ l := by rw [← hK]; omega
  have f1 := first_may 9999 12 p1 p2 q1 q2 1 (by omega) (by omega)
  have f2 := first_may 9999 12 p1 p2 q1 q2 K kk.1 (by omega)
  have f3 := first_may 9999 12 p1 p2 q1 q2 l (by omega) (by omega)
  have A1 := nb_bd _ _ _ f1
  rw [hA] at A1
  have C1 : Hid (nN 9999 12 1 = A ∧ nE 9999 12 1 = 0) := Lib.hid (by rw [← hA]; exact n_yes f1)
  have C2 : Hid (nN 9999 12 K = A + K - 1 ∧ nE 9999 12 K = 0) := Lib.hid (by rw [show A + K - 1 = nb 9999 12 K by rw [← hA]; unfold nb; omega]; exact n_yes f2)
  have C3 : Hid (nN 9999 12 l = A + l - 1 ∧ nE 9999 12 l = 0) := Lib.hid (by rw [show A + l - 1 = nb 9999 12 l by rw [← hA]; unfold nb; omega]; exact n_yes f3)
  have C4 : Hid (mb 9999 12 (l + 1) = false) := Lib.hid ((mb_not _ _ _).2 (fun h => by have := h.2.2.2.2.2; omega))
  have CL := Lib.hid hl
  have CX : Hid (nN (10000) (1) 1 = 0 ∧ nE (10000) (1) 1 = 3) := Lib.hid (by
    exact n_no (fun h => by have := h.2.1; omega))
  have HP := Lib.hid hP
  have HQ := Lib.hid hQ
  have HK := Lib.hid hK
  have y9 : 0 ≤ y % 9999 ∧ y % 9999 < 9999 := by omega
  have m9 : 0 ≤ m % 12 ∧ m % 12 < 12 := by omega
  clear f1 f2 f3 hA hl hP hQ hK
  go_enter Tryd.func9, Tryd.ntmps9
  go_wp2_with fail
  (with_reducible refine (cshown_any _ (H.lens (List.Mem.head _))).mono ?_)
  rintro e w1 ⟨rfl, hb⟩
  replace H := H.below hb
  clear hb
  go_wp2_with fail
  rw [HP.out, HQ.out]
  (with_reducible refine (length_is 9999 12 l _ (H.lens (List.Mem.head _)) CL.out).mono ?_)
  rintro e w2 ⟨rfl, hb⟩
  replace H := H.below hb
  clear hb
  go_wp2_with fail
  rw [HK.out]
  (with_reducible refine (number_is 9999 12 1 A 0 _ (H.lens (List.Mem.head _)) C1.out).mono ?_)
  rintro e w3 ⟨rfl, hb⟩
  replace H := H.below hb
  clear hb
  go_wp2_with fail
  (with_reducible refine (number_is 9999 12 K (A + K - 1) 0 _ (H.lens (List.Mem.head _)) C2.out).mono ?_)
  rintro e w4 ⟨rfl, hb⟩
  replace H := H.below hb
  clear hb
  go_wp2_with fail
  (with_reducible refine (number_is 9999 12 l (A + l - 1) 0 _ (H.lens (List.Mem.head _)) C3.out).mono ?_)
  rintro e w5 ⟨rfl, hb⟩
  replace H := H.below hb
  clear hb
  go_wp2_with fail
  (with_reducible refine (may_is 9999 12 (l + 1) false _ (H.lens (List.Mem.head _)) C4.out).mono ?_)
  rintro e w6 ⟨rfl, hb⟩
  replace H := H.below hb
  clear hb
  go_wp2_with fail
  replace H := (H.triple (w6.heap.size) (.int .i64 10000) (.int .i64 1) (.int .i64 1) 23 rfl)
  (with_reducible refine (number_is (10000) (1) 1 (0) 3 _ (H.lens (List.Mem.tail _ (List.Mem.tail _ (List.Mem.tail _ (List.Mem.tail _ (List.Mem.tail _ (List.Mem.tail _ (List.Mem.head _)))))))) CX.out).mono ?_)
  rintro e w7 ⟨rfl, hb⟩
  replace H := H.below hb
  clear hb
  go_wp2
  all_goals
    go_ret
    exact ⟨rfl, H.old⟩

theorem cmonths_walk (y m d : Int) (w : World) (hL : Lens w) (hy : 0 ≤ y ∧ y < 65536) (hm : 0 ≤ m ∧ m < 256) (hd : 0 ≤ d ∧ d < 256) :
    Calls Tryd.prog 9 #[.int .u16 y, .int .u8 m, .int .u8 d] w fun e w' => e = .returned (.bool true) ∧ Below w.heap.size w w' := by
  obtain ⟨P, hP⟩ : ∃ P, 1 + y % 9999 = P := ⟨_, rfl⟩
  obtain ⟨Q, hQ⟩ : ∃ Q, 1 + m % 12 = Q := ⟨_, rfl⟩
  by_cases h1 : Q = 12
  · subst h1
    by_cases h2 : P = 9999
    · subst h2
      exact cmonths_c y m d _ _ _ w hL hy.1 hy.2 hm.1 hm.2 hd.1 hd.2 hP hQ rfl rfl rfl
    · exact cmonths_b y m d P _ _ _ w hL hy.1 hy.2 hm.1 hm.2 hd.1 hd.2 hP hQ rfl rfl rfl h2
  · exact cmonths_a y m d P Q _ _ _ w hL hy.1 hy.2 hm.1 hm.2 hd.1 hd.2 hP hQ rfl rfl rfl h1
end Go.Proofs.YthnondaheppkiaaDoor
